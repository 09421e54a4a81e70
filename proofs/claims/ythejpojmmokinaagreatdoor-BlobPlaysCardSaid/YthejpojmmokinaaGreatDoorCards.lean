/-
  DERIVED. GIVEN WITH THE SEED: THE CARDS: each row of YthejpojmmokinaaGreatDoorRows.lean that lists a variable, with what it lists TIED to the program's text (the seventh form; the later family's looks); each row that meets fmt, with fmt's text TOLD by the authors' own Lean function (tested against real Go, not proved from fmt's source: count such statements apart). THE CARD IS WHAT COUNTS. Prove the row's statement (the work); the ties are given (YthejpojmmokinaaGreatDoorTie.lean); close each card by the builder's one call (the guide's Derived/Test/ToyasCard.lean, 'card_holds'). Laid BY PROGRAM, IN A SANDBOX (cutbox-door.mjs). By AI agents, Wed Nov 11 2026. No macro, syntax, notation, axiom, sorry.
-/
import Derived.Test.YthejpojmmokinaaGreatDoorRows
import GoSem.ClaimSeven
namespace Go.Proofs.YthejpojmmokinaaGreatDoor
namespace Rows

/-- THE TIED CARD OF 'tetherlaw08.BlobPlays'. -/
def blobPlaysCard : Claim7 := { stood := { row := blobPlaysRow, standIns := [], harness := (true, "bbff8c1a0cdda9b856d47c68f5840574f65a8ef2185791500d4679352413f9de"), looks := false }, kinds := [], alts := [], laidByText := true, laidKinds := [.data, .data, .data], laidTests := true, laidLooks := .later }
def BlobPlaysCardSaid : Prop := Claim7.holds Tryz.pinned (.plain (OpenSpec.ofChange blobPlaysSpec)) blobPlaysCard

/-- THE TIED CARD OF 'tetherlaw08.BlobHolds'. -/
def blobHoldsCard : Claim7 := { stood := { row := blobHoldsRow, standIns := [], harness := (true, "bbff8c1a0cdda9b856d47c68f5840574f65a8ef2185791500d4679352413f9de"), looks := false }, kinds := [], alts := [], laidByText := true, laidKinds := [.data, .data, .data], laidTests := true, laidLooks := .later }
def BlobHoldsCardSaid : Prop := Claim7.holds Tryz.pinned (.plain (OpenSpec.ofChange blobHoldsSpec)) blobHoldsCard

/-- THE TIED CARD OF 'tetherlaw08.BlobSweeps'. -/
def blobSweepsCard : Claim7 := { stood := { row := blobSweepsRow, standIns := [], harness := (true, "bbff8c1a0cdda9b856d47c68f5840574f65a8ef2185791500d4679352413f9de"), looks := false }, kinds := [], alts := [], laidByText := true, laidKinds := [.data, .data, .data], laidTests := true, laidLooks := .later }
def BlobSweepsCardSaid : Prop := Claim7.holds Tryz.pinned (.plain (OpenSpec.ofChange blobSweepsSpec)) blobSweepsCard

/-- THE TIED CARD OF 'tetherlaw08.BlobLasts'. -/
def blobLastsCard : Claim7 := { stood := { row := blobLastsRow, standIns := [], harness := (true, "bbff8c1a0cdda9b856d47c68f5840574f65a8ef2185791500d4679352413f9de"), looks := false }, kinds := [], alts := [], laidByText := true, laidKinds := [.data, .data, .data], laidTests := true, laidLooks := .later }
def BlobLastsCardSaid : Prop := Claim7.holds Tryz.pinned (.plain (OpenSpec.ofChange blobLastsSpec)) blobLastsCard

/-- THE TIED CARD OF 'tetherlaw08.BlobKeys'. -/
def blobKeysCard : Claim7 := { stood := { row := blobKeysRow, standIns := [], harness := (true, "bbff8c1a0cdda9b856d47c68f5840574f65a8ef2185791500d4679352413f9de"), looks := false }, kinds := [], alts := [], laidByText := true, laidKinds := [.data, .data, .data], laidTests := true, laidLooks := .later }
def BlobKeysCardSaid : Prop := Claim7.holds Tryz.pinned (.plain (OpenSpec.ofChange blobKeysSpec)) blobKeysCard

/-- THE SECOND FORM's CARD OF 'tetherlaw08.BlobPlays'. -/
def blobPlaysUptoCard : Claim7 := { stood := { row := blobPlaysUptoRow, standIns := [], harness := (true, "bbff8c1a0cdda9b856d47c68f5840574f65a8ef2185791500d4679352413f9de"), looks := false }, kinds := [], alts := [], laidByText := true, laidKinds := [.data, .data, .data], laidTests := true, laidLooks := .later }
def BlobPlaysUptoCardSaid : Prop := Claim7.holds Tryz.pinned (.plain (OpenSpec.upto blobPlaysSpec)) blobPlaysUptoCard

/-- THE SECOND FORM's CARD OF 'tetherlaw08.BlobHolds'. -/
def blobHoldsUptoCard : Claim7 := { stood := { row := blobHoldsUptoRow, standIns := [], harness := (true, "bbff8c1a0cdda9b856d47c68f5840574f65a8ef2185791500d4679352413f9de"), looks := false }, kinds := [], alts := [], laidByText := true, laidKinds := [.data, .data, .data], laidTests := true, laidLooks := .later }
def BlobHoldsUptoCardSaid : Prop := Claim7.holds Tryz.pinned (.plain (OpenSpec.upto blobHoldsSpec)) blobHoldsUptoCard

/-- THE SECOND FORM's CARD OF 'tetherlaw08.BlobSweeps'. -/
def blobSweepsUptoCard : Claim7 := { stood := { row := blobSweepsUptoRow, standIns := [], harness := (true, "bbff8c1a0cdda9b856d47c68f5840574f65a8ef2185791500d4679352413f9de"), looks := false }, kinds := [], alts := [], laidByText := true, laidKinds := [.data, .data, .data], laidTests := true, laidLooks := .later }
def BlobSweepsUptoCardSaid : Prop := Claim7.holds Tryz.pinned (.plain (OpenSpec.upto blobSweepsSpec)) blobSweepsUptoCard

/-- THE SECOND FORM's CARD OF 'tetherlaw08.BlobLasts'. -/
def blobLastsUptoCard : Claim7 := { stood := { row := blobLastsUptoRow, standIns := [], harness := (true, "bbff8c1a0cdda9b856d47c68f5840574f65a8ef2185791500d4679352413f9de"), looks := false }, kinds := [], alts := [], laidByText := true, laidKinds := [.data, .data, .data], laidTests := true, laidLooks := .later }
def BlobLastsUptoCardSaid : Prop := Claim7.holds Tryz.pinned (.plain (OpenSpec.upto blobLastsSpec)) blobLastsUptoCard

/-- THE SECOND FORM's CARD OF 'tetherlaw08.BlobKeys'. -/
def blobKeysUptoCard : Claim7 := { stood := { row := blobKeysUptoRow, standIns := [], harness := (true, "bbff8c1a0cdda9b856d47c68f5840574f65a8ef2185791500d4679352413f9de"), looks := false }, kinds := [], alts := [], laidByText := true, laidKinds := [.data, .data, .data], laidTests := true, laidLooks := .later }
def BlobKeysUptoCardSaid : Prop := Claim7.holds Tryz.pinned (.plain (OpenSpec.upto blobKeysSpec)) blobKeysUptoCard
end Rows
end Go.Proofs.YthejpojmmokinaaGreatDoor

/-
  DERIVED. GIVEN WITH THE SEED: THE CARDS: each row of YtdkgkomjbpggeaaGreatDoorRows.lean that lists a variable, with what it lists TIED to the program's text (the seventh form; the later family's looks); each row that meets fmt, with fmt's text TOLD by the authors' own Lean function (tested against real Go, not proved from fmt's source: count such statements apart). THE CARD IS WHAT COUNTS. Prove the row's statement (the work); the ties are given (YtdkgkomjbpggeaaGreatDoorTie.lean); close each card by the builder's one call (the guide's Derived/Test/ToyasCard.lean, 'card_holds'). Laid BY PROGRAM, IN A SANDBOX (cutbox-door.mjs). By AI agents, Wed Nov 11 2026. No macro, syntax, notation, axiom, sorry.
-/
import Derived.Test.YtdkgkomjbpggeaaGreatDoorRows
import GoSem.ClaimSeven
namespace Go.Proofs.YtdkgkomjbpggeaaGreatDoor
namespace Rows

/-- THE TIED CARD OF 'tetherlaw16.ArchivePlays'. -/
def archivePlaysCard : Claim7 := { stood := { row := archivePlaysRow, standIns := [], harness := (true, "f3b35b9b948fad077a8fe9e1bc4507f0ed2c0010e34a14503dcbc8e3cf767af0"), looks := false }, kinds := [], alts := [], laidByText := true, laidKinds := [.data, .data, .data], laidTests := true, laidLooks := .later }
def ArchivePlaysCardSaid : Prop := Claim7.holds Tryz.pinned (.plain (OpenSpec.ofChange archivePlaysSpec)) archivePlaysCard

/-- THE TIED CARD OF 'tetherlaw16.ArchiveBits'. -/
def archiveBitsCard : Claim7 := { stood := { row := archiveBitsRow, standIns := [], harness := (true, "f3b35b9b948fad077a8fe9e1bc4507f0ed2c0010e34a14503dcbc8e3cf767af0"), looks := false }, kinds := [], alts := [], laidByText := true, laidKinds := [.data, .data, .data], laidTests := true, laidLooks := .later }
def ArchiveBitsCardSaid : Prop := Claim7.holds Tryz.pinned (.plain (OpenSpec.ofChange archiveBitsSpec)) archiveBitsCard

/-- THE TIED CARD OF 'tetherlaw16.ArchiveRoom'. -/
def archiveRoomCard : Claim7 := { stood := { row := archiveRoomRow, standIns := [], harness := (true, "f3b35b9b948fad077a8fe9e1bc4507f0ed2c0010e34a14503dcbc8e3cf767af0"), looks := false }, kinds := [], alts := [], laidByText := true, laidKinds := [.data, .data, .data], laidTests := true, laidLooks := .later }
def ArchiveRoomCardSaid : Prop := Claim7.holds Tryz.pinned (.plain (OpenSpec.ofChange archiveRoomSpec)) archiveRoomCard

/-- THE SECOND FORM's CARD OF 'tetherlaw16.ArchivePlays'. -/
def archivePlaysUptoCard : Claim7 := { stood := { row := archivePlaysUptoRow, standIns := [], harness := (true, "f3b35b9b948fad077a8fe9e1bc4507f0ed2c0010e34a14503dcbc8e3cf767af0"), looks := false }, kinds := [], alts := [], laidByText := true, laidKinds := [.data, .data, .data], laidTests := true, laidLooks := .later }
def ArchivePlaysUptoCardSaid : Prop := Claim7.holds Tryz.pinned (.plain (OpenSpec.upto archivePlaysSpec)) archivePlaysUptoCard

/-- THE SECOND FORM's CARD OF 'tetherlaw16.ArchiveBits'. -/
def archiveBitsUptoCard : Claim7 := { stood := { row := archiveBitsUptoRow, standIns := [], harness := (true, "f3b35b9b948fad077a8fe9e1bc4507f0ed2c0010e34a14503dcbc8e3cf767af0"), looks := false }, kinds := [], alts := [], laidByText := true, laidKinds := [.data, .data, .data], laidTests := true, laidLooks := .later }
def ArchiveBitsUptoCardSaid : Prop := Claim7.holds Tryz.pinned (.plain (OpenSpec.upto archiveBitsSpec)) archiveBitsUptoCard

/-- THE SECOND FORM's CARD OF 'tetherlaw16.ArchiveRoom'. -/
def archiveRoomUptoCard : Claim7 := { stood := { row := archiveRoomUptoRow, standIns := [], harness := (true, "f3b35b9b948fad077a8fe9e1bc4507f0ed2c0010e34a14503dcbc8e3cf767af0"), looks := false }, kinds := [], alts := [], laidByText := true, laidKinds := [.data, .data, .data], laidTests := true, laidLooks := .later }
def ArchiveRoomUptoCardSaid : Prop := Claim7.holds Tryz.pinned (.plain (OpenSpec.upto archiveRoomSpec)) archiveRoomUptoCard
end Rows
end Go.Proofs.YtdkgkomjbpggeaaGreatDoor

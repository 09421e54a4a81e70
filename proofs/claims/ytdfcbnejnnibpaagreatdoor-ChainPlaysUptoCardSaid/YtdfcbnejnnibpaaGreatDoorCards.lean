/-
  DERIVED. GIVEN WITH THE SEED: THE CARDS: each row of YtdfcbnejnnibpaaGreatDoorRows.lean that lists a variable, with what it lists TIED to the program's text (the seventh form; the later family's looks); each row that meets fmt, with fmt's text TOLD by the authors' own Lean function (tested against real Go, not proved from fmt's source: count such statements apart). THE CARD IS WHAT COUNTS. Prove the row's statement (the work); the ties are given (YtdfcbnejnnibpaaGreatDoorTie.lean); close each card by the builder's one call (the guide's Derived/Test/ToyasCard.lean, 'card_holds'). Laid BY PROGRAM, IN A SANDBOX (cutbox-door.mjs). By AI agents, Wed Nov 11 2026. No macro, syntax, notation, axiom, sorry.
-/
import Derived.Test.YtdfcbnejnnibpaaGreatDoorRows
import GoSem.ClaimSeven
namespace Go.Proofs.YtdfcbnejnnibpaaGreatDoor
namespace Rows

/-- THE TIED CARD OF 'tetherlaw10.ChainPlays'. -/
def chainPlaysCard : Claim7 := { stood := { row := chainPlaysRow, standIns := [], harness := (true, "ffea3b05f9f6967214cf76cc1c0b95694db7b02319e701eef90c43e3315b0b7b"), looks := true }, kinds := [], alts := [], laidByText := true, laidKinds := [.data, .data, .data, .sentinel, .sentinel], laidTests := true, laidLooks := .later }
def ChainPlaysCardSaid : Prop := Claim7.holds Tryz.pinned (.plain (OpenSpec.ofChange chainPlaysSpec)) chainPlaysCard

/-- THE TIED CARD OF 'tetherlaw10.ChainHolds'. -/
def chainHoldsCard : Claim7 := { stood := { row := chainHoldsRow, standIns := [], harness := (true, "ffea3b05f9f6967214cf76cc1c0b95694db7b02319e701eef90c43e3315b0b7b"), looks := true }, kinds := [], alts := [], laidByText := true, laidKinds := [.data, .data, .data, .sentinel, .sentinel], laidTests := true, laidLooks := .later }
def ChainHoldsCardSaid : Prop := Claim7.holds Tryz.pinned (.plain (OpenSpec.ofChange chainHoldsSpec)) chainHoldsCard

/-- THE TIED CARD OF 'tetherlaw10.ChainSmall'. -/
def chainSmallCard : Claim7 := { stood := { row := chainSmallRow, standIns := [], harness := (true, "ffea3b05f9f6967214cf76cc1c0b95694db7b02319e701eef90c43e3315b0b7b"), looks := true }, kinds := [], alts := [], laidByText := true, laidKinds := [.data, .data, .data, .sentinel, .sentinel], laidTests := true, laidLooks := .later }
def ChainSmallCardSaid : Prop := Claim7.holds Tryz.pinned (.plain (OpenSpec.ofChange chainSmallSpec)) chainSmallCard

/-- THE SECOND FORM's CARD OF 'tetherlaw10.ChainPlays'. -/
def chainPlaysUptoCard : Claim7 := { stood := { row := chainPlaysUptoRow, standIns := [], harness := (true, "ffea3b05f9f6967214cf76cc1c0b95694db7b02319e701eef90c43e3315b0b7b"), looks := true }, kinds := [], alts := [], laidByText := true, laidKinds := [.data, .data, .data, .sentinel, .sentinel], laidTests := true, laidLooks := .later }
def ChainPlaysUptoCardSaid : Prop := Claim7.holds Tryz.pinned (.plain (OpenSpec.upto chainPlaysSpec)) chainPlaysUptoCard

/-- THE SECOND FORM's CARD OF 'tetherlaw10.ChainHolds'. -/
def chainHoldsUptoCard : Claim7 := { stood := { row := chainHoldsUptoRow, standIns := [], harness := (true, "ffea3b05f9f6967214cf76cc1c0b95694db7b02319e701eef90c43e3315b0b7b"), looks := true }, kinds := [], alts := [], laidByText := true, laidKinds := [.data, .data, .data, .sentinel, .sentinel], laidTests := true, laidLooks := .later }
def ChainHoldsUptoCardSaid : Prop := Claim7.holds Tryz.pinned (.plain (OpenSpec.upto chainHoldsSpec)) chainHoldsUptoCard

/-- THE SECOND FORM's CARD OF 'tetherlaw10.ChainSmall'. -/
def chainSmallUptoCard : Claim7 := { stood := { row := chainSmallUptoRow, standIns := [], harness := (true, "ffea3b05f9f6967214cf76cc1c0b95694db7b02319e701eef90c43e3315b0b7b"), looks := true }, kinds := [], alts := [], laidByText := true, laidKinds := [.data, .data, .data, .sentinel, .sentinel], laidTests := true, laidLooks := .later }
def ChainSmallUptoCardSaid : Prop := Claim7.holds Tryz.pinned (.plain (OpenSpec.upto chainSmallSpec)) chainSmallUptoCard
end Rows
end Go.Proofs.YtdfcbnejnnibpaaGreatDoor

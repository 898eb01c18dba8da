/-
  DERIVED. GIVEN WITH THE SEED: THE CARDS: each row of YtkhkjihcpgkknaaDoorRows.lean that lists a variable, with what it lists TIED to the program's text (the seventh form; the later family's looks); each row that meets fmt, with fmt's text TOLD by the authors' own Lean function (tested against real Go, not proved from fmt's source: count such statements apart). THE CARD IS WHAT COUNTS. Prove the row's statement (the work); the ties are given (YtkhkjihcpgkknaaDoorTie.lean); close each card by the builder's one call (the guide's Derived/Test/ToyasCard.lean, 'card_holds'). Laid BY PROGRAM, IN A SANDBOX (cutbox-door.mjs). By AI agents, Wed Nov 11 2026. No macro, syntax, notation, axiom, sorry.
-/
import Derived.Test.YtkhkjihcpgkknaaDoorRows
import GoSem.ClaimSeven
namespace Go.Proofs.YtkhkjihcpgkknaaDoor
namespace Rows

/-- THE TIED CARD OF 'spotterlaw.Checks'. -/
def checksCard : Claim7 := { stood := { row := checksRow, standIns := [], harness := (true, "e1bf131c99df2af9d03334592b82e7cd78e8b59862c8d6e4e7fe1c6cb6d0940a"), looks := true }, kinds := [], alts := [], laidByText := true, laidKinds := [.data, .data, .data], laidTests := true, laidLooks := .later }
def ChecksCardSaid : Prop := Claim7.holds Tryd.pinned (.plain (OpenSpec.ofChange checksSpec)) checksCard

/-- THE TIED CARD OF 'spotterlaw.Flips'. -/
def flipsCard : Claim7 := { stood := { row := flipsRow, standIns := [], harness := (true, "e1bf131c99df2af9d03334592b82e7cd78e8b59862c8d6e4e7fe1c6cb6d0940a"), looks := true }, kinds := [], alts := [], laidByText := true, laidKinds := [.data, .data, .data], laidTests := true, laidLooks := .later }
def FlipsCardSaid : Prop := Claim7.holds Tryd.pinned (.plain (OpenSpec.ofChange flipsSpec)) flipsCard

/-- THE TIED CARD OF 'spotterlaw.Stretches'. -/
def stretchesCard : Claim7 := { stood := { row := stretchesRow, standIns := [], harness := (true, "e1bf131c99df2af9d03334592b82e7cd78e8b59862c8d6e4e7fe1c6cb6d0940a"), looks := true }, kinds := [], alts := [], laidByText := true, laidKinds := [.data, .data, .data], laidTests := true, laidLooks := .later }
def StretchesCardSaid : Prop := Claim7.holds Tryd.pinned (.plain (OpenSpec.ofChange stretchesSpec)) stretchesCard

/-- THE SECOND FORM's CARD OF 'spotterlaw.Checks'. -/
def checksUptoCard : Claim7 := { stood := { row := checksUptoRow, standIns := [], harness := (true, "e1bf131c99df2af9d03334592b82e7cd78e8b59862c8d6e4e7fe1c6cb6d0940a"), looks := true }, kinds := [], alts := [], laidByText := true, laidKinds := [.data, .data, .data], laidTests := true, laidLooks := .later }
def ChecksUptoCardSaid : Prop := Claim7.holds Tryd.pinned (.plain (OpenSpec.upto checksSpec)) checksUptoCard

/-- THE SECOND FORM's CARD OF 'spotterlaw.Flips'. -/
def flipsUptoCard : Claim7 := { stood := { row := flipsUptoRow, standIns := [], harness := (true, "e1bf131c99df2af9d03334592b82e7cd78e8b59862c8d6e4e7fe1c6cb6d0940a"), looks := true }, kinds := [], alts := [], laidByText := true, laidKinds := [.data, .data, .data], laidTests := true, laidLooks := .later }
def FlipsUptoCardSaid : Prop := Claim7.holds Tryd.pinned (.plain (OpenSpec.upto flipsSpec)) flipsUptoCard

/-- THE SECOND FORM's CARD OF 'spotterlaw.Stretches'. -/
def stretchesUptoCard : Claim7 := { stood := { row := stretchesUptoRow, standIns := [], harness := (true, "e1bf131c99df2af9d03334592b82e7cd78e8b59862c8d6e4e7fe1c6cb6d0940a"), looks := true }, kinds := [], alts := [], laidByText := true, laidKinds := [.data, .data, .data], laidTests := true, laidLooks := .later }
def StretchesUptoCardSaid : Prop := Claim7.holds Tryd.pinned (.plain (OpenSpec.upto stretchesSpec)) stretchesUptoCard
end Rows
end Go.Proofs.YtkhkjihcpgkknaaDoor

/-
  DERIVED. GIVEN WITH THE SEED: THE CARDS: each row of YtdcjnhipenbcfaaGreatDoorRows.lean that lists a variable, with what it lists TIED to the program's text (the seventh form; the later family's looks); each row that meets fmt, with fmt's text TOLD by the authors' own Lean function (tested against real Go, not proved from fmt's source: count such statements apart). THE CARD IS WHAT COUNTS. Prove the row's statement (the work); the ties are given (YtdcjnhipenbcfaaGreatDoorTie.lean); close each card by the builder's one call (the guide's Derived/Test/ToyasCard.lean, 'card_holds'). Laid BY PROGRAM, IN A SANDBOX (cutbox-door.mjs). By AI agents, Wed Nov 11 2026. No macro, syntax, notation, axiom, sorry.
-/
import Derived.Test.YtdcjnhipenbcfaaGreatDoorRows
import GoSem.ClaimSeven
namespace Go.Proofs.YtdcjnhipenbcfaaGreatDoor
namespace Rows

/-- THE TIED CARD OF 'spotterlaw.Checks'. -/
def checksCard : Claim7 := { stood := { row := checksRow, standIns := [], harness := (true, "f2d7a8f1e4649472e716c5a5951b7495910b156f9b358f46669b62eae491dc62"), looks := true }, kinds := [], alts := [], goes := true, laidByText := true, laidKinds := [.data, .data, .data], laidTests := true, laidLooks := .later }
def ChecksCardSaid : Prop := Claim7.holds Tryz.pinned (.plain (OpenSpec.ofChange checksSpec)) checksCard

/-- THE TIED CARD OF 'spotterlaw.Flips'. -/
def flipsCard : Claim7 := { stood := { row := flipsRow, standIns := [], harness := (true, "f2d7a8f1e4649472e716c5a5951b7495910b156f9b358f46669b62eae491dc62"), looks := true }, kinds := [], alts := [], goes := true, laidByText := true, laidKinds := [.data, .data, .data], laidTests := true, laidLooks := .later }
def FlipsCardSaid : Prop := Claim7.holds Tryz.pinned (.plain (OpenSpec.ofChange flipsSpec)) flipsCard

/-- THE TIED CARD OF 'spotterlaw.Stretches'. -/
def stretchesCard : Claim7 := { stood := { row := stretchesRow, standIns := [], harness := (true, "f2d7a8f1e4649472e716c5a5951b7495910b156f9b358f46669b62eae491dc62"), looks := true }, kinds := [], alts := [], goes := true, laidByText := true, laidKinds := [.data, .data, .data], laidTests := true, laidLooks := .later }
def StretchesCardSaid : Prop := Claim7.holds Tryz.pinned (.plain (OpenSpec.ofChange stretchesSpec)) stretchesCard

/-- THE TIED CARD OF 'spotterlaw.Maps'. -/
def mapsCard : Claim7 := { stood := { row := mapsRow, standIns := [], harness := (true, "f2d7a8f1e4649472e716c5a5951b7495910b156f9b358f46669b62eae491dc62"), looks := true }, kinds := [], alts := [], goes := true, laidByText := true, laidKinds := [.data, .data, .data], laidTests := true, laidLooks := .later }
def MapsCardSaid : Prop := Claim7.holds Tryz.pinned (.plain (OpenSpec.ofChange mapsSpec)) mapsCard

/-- THE TIED CARD OF 'spotterkeep.Planted'. -/
def plantedCard : Claim7 := { stood := { row := plantedRow, standIns := [], harness := (true, "f2d7a8f1e4649472e716c5a5951b7495910b156f9b358f46669b62eae491dc62"), looks := true }, kinds := [], alts := [], goes := true, laidByText := true, laidKinds := [.data, .data, .data], laidTests := true, laidLooks := .later }
def PlantedCardSaid : Prop := Claim7.holds Tryz.pinned (.plain (OpenSpec.ofChange plantedSpec)) plantedCard

/-- THE TIED CARD OF 'spotterkeep.Told'. -/
def toldCard : Claim7 := { stood := { row := toldRow, standIns := [], harness := (true, "f2d7a8f1e4649472e716c5a5951b7495910b156f9b358f46669b62eae491dc62"), looks := true }, kinds := [], alts := [], goes := true, laidByText := true, laidKinds := [.data, .data, .data], laidTests := true, laidLooks := .later }
def ToldCardSaid : Prop := Claim7.holds Tryz.pinned (.plain (OpenSpec.ofChange toldSpec)) toldCard

/-- THE TIED CARD OF 'spotterkeep.Same'. -/
def sameCard : Claim7 := { stood := { row := sameRow, standIns := [], harness := (true, "f2d7a8f1e4649472e716c5a5951b7495910b156f9b358f46669b62eae491dc62"), looks := true }, kinds := [], alts := [], goes := true, laidByText := true, laidKinds := [.data, .data, .data], laidTests := true, laidLooks := .later }
def SameCardSaid : Prop := Claim7.holds Tryz.pinned (.plain (OpenSpec.ofChange sameSpec)) sameCard

/-- THE TIED CARD OF 'spotterkeep.Exact'. -/
def exactCard : Claim7 := { stood := { row := exactRow, standIns := [], harness := (true, "f2d7a8f1e4649472e716c5a5951b7495910b156f9b358f46669b62eae491dc62"), looks := true }, kinds := [], alts := [], goes := true, laidByText := true, laidKinds := [.data, .data, .data], laidTests := true, laidLooks := .later }
def ExactCardSaid : Prop := Claim7.holds Tryz.pinned (.plain (OpenSpec.ofChange exactSpec)) exactCard

/-- THE TIED CARD OF 'spotterkeep.Apart'. -/
def apartCard : Claim7 := { stood := { row := apartRow, standIns := [], harness := (true, "f2d7a8f1e4649472e716c5a5951b7495910b156f9b358f46669b62eae491dc62"), looks := true }, kinds := [], alts := [], goes := true, laidByText := true, laidKinds := [.data, .data, .data], laidTests := true, laidLooks := .later }
def ApartCardSaid : Prop := Claim7.holds Tryz.pinned (.plain (OpenSpec.ofChange apartSpec)) apartCard

/-- THE TIED CARD OF 'spotterkeep.Mirror'. -/
def mirrorCard : Claim7 := { stood := { row := mirrorRow, standIns := [], harness := (true, "f2d7a8f1e4649472e716c5a5951b7495910b156f9b358f46669b62eae491dc62"), looks := true }, kinds := [], alts := [], goes := true, laidByText := true, laidKinds := [.data, .data, .data], laidTests := true, laidLooks := .later }
def MirrorCardSaid : Prop := Claim7.holds Tryz.pinned (.plain (OpenSpec.ofChange mirrorSpec)) mirrorCard

/-- THE TIED CARD OF 'spotterkeep.Wider'. -/
def widerCard : Claim7 := { stood := { row := widerRow, standIns := [], harness := (true, "f2d7a8f1e4649472e716c5a5951b7495910b156f9b358f46669b62eae491dc62"), looks := true }, kinds := [], alts := [], goes := true, laidByText := true, laidKinds := [.data, .data, .data], laidTests := true, laidLooks := .later }
def WiderCardSaid : Prop := Claim7.holds Tryz.pinned (.plain (OpenSpec.ofChange widerSpec)) widerCard

/-- THE TIED CARD OF 'spotterlaw.All'. -/
def allCard : Claim7 := { stood := { row := allRow, standIns := [], harness := (true, "f2d7a8f1e4649472e716c5a5951b7495910b156f9b358f46669b62eae491dc62"), looks := true }, kinds := [], alts := [], goes := true, laidByText := true, laidKinds := [.data, .data, .data], laidTests := true, laidLooks := .later }
def AllCardSaid : Prop := Claim7.holds Tryz.pinned (.plain (OpenSpec.ofChange allSpec)) allCard
end Rows
end Go.Proofs.YtdcjnhipenbcfaaGreatDoor

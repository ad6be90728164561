/-
  DERIVED. GIVEN WITH THE SEED: THE CARDS: each row of YtdfojkbgdoiglaaGreatDoorRows.lean that lists a variable, with what it lists TIED to the program's text (the seventh form; the later family's looks); each row that meets fmt, with fmt's text TOLD by the authors' own Lean function (tested against real Go, not proved from fmt's source: count such statements apart). THE CARD IS WHAT COUNTS. Prove the row's statement (the work); the ties are given (YtdfojkbgdoiglaaGreatDoorTie.lean); close each card by the builder's one call (the guide's Derived/Test/ToyasCard.lean, 'card_holds'). Laid BY PROGRAM, IN A SANDBOX (cutbox-door.mjs). By AI agents, Wed Nov 11 2026. No macro, syntax, notation, axiom, sorry.
-/
import Derived.Test.YtdfojkbgdoiglaaGreatDoorRows
import GoSem.ClaimSeven
namespace Go.Proofs.YtdfojkbgdoiglaaGreatDoor
namespace Rows

/-- THE TIED CARD OF 'clavierlaw13.KittyTells'. -/
def kittyTellsCard : Claim7 := { stood := { row := kittyTellsRow, standIns := [], harness := (true, "f1f973fef802171216cf2f6caa8a233b7fef9108d062031b6cfa700cbd0bd0a2"), looks := false }, kinds := [], alts := [], laidByText := true, laidKinds := [.data, .data, .data, .data, .widerDeep], laidTests := true, laidLooks := .later }
def KittyTellsCardSaid : Prop := Claim7.holds Tryz.pinned (.plain (OpenSpec.ofChange kittyTellsSpec)) kittyTellsCard

/-- THE TIED CARD OF 'clavierlaw13.KittyAll'. -/
def kittyAllCard : Claim7 := { stood := { row := kittyAllRow, standIns := [], harness := (true, "f1f973fef802171216cf2f6caa8a233b7fef9108d062031b6cfa700cbd0bd0a2"), looks := false }, kinds := [], alts := [], laidByText := true, laidKinds := [.data, .data, .data, .data, .widerDeep], laidTests := true, laidLooks := .later }
def KittyAllCardSaid : Prop := Claim7.holds Tryz.pinned (.plain (OpenSpec.ofChange kittyAllSpec)) kittyAllCard

/-- THE TIED CARD OF 'clavierlaw13.KittyOne'. -/
def kittyOneCard : Claim7 := { stood := { row := kittyOneRow, standIns := [], harness := (true, "f1f973fef802171216cf2f6caa8a233b7fef9108d062031b6cfa700cbd0bd0a2"), looks := false }, kinds := [], alts := [], laidByText := true, laidKinds := [.data, .data, .data, .data, .widerDeep], laidTests := true, laidLooks := .later }
def KittyOneCardSaid : Prop := Claim7.holds Tryz.pinned (.plain (OpenSpec.ofChange kittyOneSpec)) kittyOneCard

/-- THE SECOND FORM's CARD OF 'clavierlaw13.KittyTells'. -/
def kittyTellsUptoCard : Claim7 := { stood := { row := kittyTellsUptoRow, standIns := [], harness := (true, "f1f973fef802171216cf2f6caa8a233b7fef9108d062031b6cfa700cbd0bd0a2"), looks := false }, kinds := [], alts := [], laidByText := true, laidKinds := [.data, .data, .data, .data, .widerDeep], laidTests := true, laidLooks := .later }
def KittyTellsUptoCardSaid : Prop := Claim7.holds Tryz.pinned (.plain (OpenSpec.upto kittyTellsSpec)) kittyTellsUptoCard

/-- THE SECOND FORM's CARD OF 'clavierlaw13.KittyAll'. -/
def kittyAllUptoCard : Claim7 := { stood := { row := kittyAllUptoRow, standIns := [], harness := (true, "f1f973fef802171216cf2f6caa8a233b7fef9108d062031b6cfa700cbd0bd0a2"), looks := false }, kinds := [], alts := [], laidByText := true, laidKinds := [.data, .data, .data, .data, .widerDeep], laidTests := true, laidLooks := .later }
def KittyAllUptoCardSaid : Prop := Claim7.holds Tryz.pinned (.plain (OpenSpec.upto kittyAllSpec)) kittyAllUptoCard

/-- THE SECOND FORM's CARD OF 'clavierlaw13.KittyOne'. -/
def kittyOneUptoCard : Claim7 := { stood := { row := kittyOneUptoRow, standIns := [], harness := (true, "f1f973fef802171216cf2f6caa8a233b7fef9108d062031b6cfa700cbd0bd0a2"), looks := false }, kinds := [], alts := [], laidByText := true, laidKinds := [.data, .data, .data, .data, .widerDeep], laidTests := true, laidLooks := .later }
def KittyOneUptoCardSaid : Prop := Claim7.holds Tryz.pinned (.plain (OpenSpec.upto kittyOneSpec)) kittyOneUptoCard
end Rows
end Go.Proofs.YtdfojkbgdoiglaaGreatDoor

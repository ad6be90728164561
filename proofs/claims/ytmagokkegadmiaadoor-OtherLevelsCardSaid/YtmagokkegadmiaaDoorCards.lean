/-
  DERIVED. GIVEN WITH THE SEED: THE CARDS: each row of YtmagokkegadmiaaDoorRows.lean that lists a variable, with what it lists TIED to the program's text (the seventh form; the later family's looks); each row that meets fmt, with fmt's text TOLD by the authors' own Lean function (tested against real Go, not proved from fmt's source: count such statements apart). THE CARD IS WHAT COUNTS. Prove the row's statement (the work); the ties are given (YtmagokkegadmiaaDoorTie.lean); close each card by the builder's one call (the guide's Derived/Test/ToyasCard.lean, 'card_holds'). Laid BY PROGRAM, IN A SANDBOX (cutbox-door.mjs). By AI agents, Wed Nov 11 2026. No macro, syntax, notation, axiom, sorry.
-/
import Derived.Test.YtmagokkegadmiaaDoorRows
import GoSem.ClaimSeven
namespace Go.Proofs.YtmagokkegadmiaaDoor
namespace Rows

/-- THE TIED CARD OF 'clavierlaw12.OtherLevels'. -/
def otherLevelsCard : Claim7 := { stood := { row := otherLevelsRow, standIns := [], harness := (true, "0472e8a6cd339d4b8f2a4dea5e07cc41e68ff5ad51d34524d5c78c909a4aab57"), looks := false }, kinds := [], alts := [], laidByText := true, laidKinds := [.data, .data, .data, .data, .widerDeep], laidTests := true, laidLooks := .later }
def OtherLevelsCardSaid : Prop := Claim7.holds Tryd.pinned (.plain (OpenSpec.ofChange otherLevelsSpec)) otherLevelsCard

/-- THE SECOND FORM's CARD OF 'clavierlaw12.OtherLevels'. -/
def otherLevelsUptoCard : Claim7 := { stood := { row := otherLevelsUptoRow, standIns := [], harness := (true, "0472e8a6cd339d4b8f2a4dea5e07cc41e68ff5ad51d34524d5c78c909a4aab57"), looks := false }, kinds := [], alts := [], laidByText := true, laidKinds := [.data, .data, .data, .data, .widerDeep], laidTests := true, laidLooks := .later }
def OtherLevelsUptoCardSaid : Prop := Claim7.holds Tryd.pinned (.plain (OpenSpec.upto otherLevelsSpec)) otherLevelsUptoCard
end Rows
end Go.Proofs.YtmagokkegadmiaaDoor

/-
  DERIVED. GIVEN WITH THE SEED: THE CARDS: each row of YtjlhhelikiegdaaGreatDoorRows.lean that lists a variable, with what it lists TIED to the program's text (the seventh form; the later family's looks); each row that meets fmt, with fmt's text TOLD by the authors' own Lean function (tested against real Go, not proved from fmt's source: count such statements apart). THE CARD IS WHAT COUNTS. Prove the row's statement (the work); the ties are given (YtjlhhelikiegdaaGreatDoorTie.lean); close each card by the builder's one call (the guide's Derived/Test/ToyasCard.lean, 'card_holds'). Laid BY PROGRAM, IN A SANDBOX (cutbox-door.mjs). By AI agents, Wed Nov 11 2026. No macro, syntax, notation, axiom, sorry.
-/
import Derived.Test.YtjlhhelikiegdaaGreatDoorRows
import GoSem.ClaimSeven
namespace Go.Proofs.YtjlhhelikiegdaaGreatDoor
namespace Rows

/-- THE TIED CARD OF 'clavierlaw16.MouseTells'. -/
def mouseTellsCard : Claim7 := { stood := { row := mouseTellsRow, standIns := [], harness := (true, "63c465fde7b0b3bf2204862e3362add15db06be27b6e68201e3572cbdfe47944"), looks := false }, kinds := [], alts := [], laidByText := true, laidKinds := [.data, .data, .data, .data], laidTests := true, laidLooks := .later }
def MouseTellsCardSaid : Prop := Claim7.holds Tryz.pinned (.plain (OpenSpec.ofChange mouseTellsSpec)) mouseTellsCard

/-- THE TIED CARD OF 'clavierlaw16.MouseDecodes'. -/
def mouseDecodesCard : Claim7 := { stood := { row := mouseDecodesRow, standIns := [], harness := (true, "63c465fde7b0b3bf2204862e3362add15db06be27b6e68201e3572cbdfe47944"), looks := false }, kinds := [], alts := [], laidByText := true, laidKinds := [.data, .data, .data, .data], laidTests := true, laidLooks := .later }
def MouseDecodesCardSaid : Prop := Claim7.holds Tryz.pinned (.plain (OpenSpec.ofChange mouseDecodesSpec)) mouseDecodesCard

/-- THE SECOND FORM's CARD OF 'clavierlaw16.MouseTells'. -/
def mouseTellsUptoCard : Claim7 := { stood := { row := mouseTellsUptoRow, standIns := [], harness := (true, "63c465fde7b0b3bf2204862e3362add15db06be27b6e68201e3572cbdfe47944"), looks := false }, kinds := [], alts := [], laidByText := true, laidKinds := [.data, .data, .data, .data], laidTests := true, laidLooks := .later }
def MouseTellsUptoCardSaid : Prop := Claim7.holds Tryz.pinned (.plain (OpenSpec.upto mouseTellsSpec)) mouseTellsUptoCard

/-- THE SECOND FORM's CARD OF 'clavierlaw16.MouseDecodes'. -/
def mouseDecodesUptoCard : Claim7 := { stood := { row := mouseDecodesUptoRow, standIns := [], harness := (true, "63c465fde7b0b3bf2204862e3362add15db06be27b6e68201e3572cbdfe47944"), looks := false }, kinds := [], alts := [], laidByText := true, laidKinds := [.data, .data, .data, .data], laidTests := true, laidLooks := .later }
def MouseDecodesUptoCardSaid : Prop := Claim7.holds Tryz.pinned (.plain (OpenSpec.upto mouseDecodesSpec)) mouseDecodesUptoCard
end Rows
end Go.Proofs.YtjlhhelikiegdaaGreatDoor

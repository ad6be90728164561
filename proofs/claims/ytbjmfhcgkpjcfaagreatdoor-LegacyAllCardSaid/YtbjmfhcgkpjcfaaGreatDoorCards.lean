/-
  DERIVED. GIVEN WITH THE SEED: THE CARDS: each row of YtbjmfhcgkpjcfaaGreatDoorRows.lean that lists a variable, with what it lists TIED to the program's text (the seventh form; the later family's looks); each row that meets fmt, with fmt's text TOLD by the authors' own Lean function (tested against real Go, not proved from fmt's source: count such statements apart). THE CARD IS WHAT COUNTS. Prove the row's statement (the work); the ties are given (YtbjmfhcgkpjcfaaGreatDoorTie.lean); close each card by the builder's one call (the guide's Derived/Test/ToyasCard.lean, 'card_holds'). Laid BY PROGRAM, IN A SANDBOX (cutbox-door.mjs). By AI agents, Wed Nov 11 2026. No macro, syntax, notation, axiom, sorry.
-/
import Derived.Test.YtbjmfhcgkpjcfaaGreatDoorRows
import GoSem.ClaimSeven
namespace Go.Proofs.YtbjmfhcgkpjcfaaGreatDoor
namespace Rows

/-- THE TIED CARD OF 'clavierlaw11.LegacyTells'. -/
def legacyTellsCard : Claim7 := { stood := { row := legacyTellsRow, standIns := [], harness := (true, "6a0841f9a69d58a825b3670a0d18051e62c7d7236037187dfb5ffafa73962453"), looks := false }, kinds := [], alts := [], laidByText := true, laidKinds := [.data, .data, .data, .data, .widerDeep], laidTests := true, laidLooks := .later }
def LegacyTellsCardSaid : Prop := Claim7.holds Tryz.pinned (.plain (OpenSpec.ofChange legacyTellsSpec)) legacyTellsCard

/-- THE TIED CARD OF 'clavierlaw11.LegacyAll'. -/
def legacyAllCard : Claim7 := { stood := { row := legacyAllRow, standIns := [], harness := (true, "6a0841f9a69d58a825b3670a0d18051e62c7d7236037187dfb5ffafa73962453"), looks := false }, kinds := [], alts := [], laidByText := true, laidKinds := [.data, .data, .data, .data, .widerDeep], laidTests := true, laidLooks := .later }
def LegacyAllCardSaid : Prop := Claim7.holds Tryz.pinned (.plain (OpenSpec.ofChange legacyAllSpec)) legacyAllCard

/-- THE SECOND FORM's CARD OF 'clavierlaw11.LegacyTells'. -/
def legacyTellsUptoCard : Claim7 := { stood := { row := legacyTellsUptoRow, standIns := [], harness := (true, "6a0841f9a69d58a825b3670a0d18051e62c7d7236037187dfb5ffafa73962453"), looks := false }, kinds := [], alts := [], laidByText := true, laidKinds := [.data, .data, .data, .data, .widerDeep], laidTests := true, laidLooks := .later }
def LegacyTellsUptoCardSaid : Prop := Claim7.holds Tryz.pinned (.plain (OpenSpec.upto legacyTellsSpec)) legacyTellsUptoCard

/-- THE SECOND FORM's CARD OF 'clavierlaw11.LegacyAll'. -/
def legacyAllUptoCard : Claim7 := { stood := { row := legacyAllUptoRow, standIns := [], harness := (true, "6a0841f9a69d58a825b3670a0d18051e62c7d7236037187dfb5ffafa73962453"), looks := false }, kinds := [], alts := [], laidByText := true, laidKinds := [.data, .data, .data, .data, .widerDeep], laidTests := true, laidLooks := .later }
def LegacyAllUptoCardSaid : Prop := Claim7.holds Tryz.pinned (.plain (OpenSpec.upto legacyAllSpec)) legacyAllUptoCard
end Rows
end Go.Proofs.YtbjmfhcgkpjcfaaGreatDoor

/-
  DERIVED. GIVEN WITH THE SEED: THE CARDS: each row of YtbjmfhcgkpjcfaaDoorRows.lean that lists a variable, with what it lists TIED to the program's text (the seventh form; the later family's looks); each row that meets fmt, with fmt's text TOLD by the authors' own Lean function (tested against real Go, not proved from fmt's source: count such statements apart). THE CARD IS WHAT COUNTS. Prove the row's statement (the work); the ties are given (YtbjmfhcgkpjcfaaDoorTie.lean); close each card by the builder's one call (the guide's Derived/Test/ToyasCard.lean, 'card_holds'). Laid BY PROGRAM, IN A SANDBOX (cutbox-door.mjs). By AI agents, Wed Nov 11 2026. No macro, syntax, notation, axiom, sorry.
-/
import Derived.Test.YtbjmfhcgkpjcfaaDoorRows
import GoSem.ClaimSeven
namespace Go.Proofs.YtbjmfhcgkpjcfaaDoor
namespace Rows

/-- THE TIED CARD OF 'clavierlaw11.LegacyTypes'. -/
def legacyTypesCard : Claim7 := { stood := { row := legacyTypesRow, standIns := [], harness := (true, "b53c235408faf0090a4537a2f91afbe05c4e1048f156a10c9247b4b1a7b1f123"), looks := false }, kinds := [], alts := [], laidByText := true, laidKinds := [.data, .data, .data, .data, .widerDeep], laidTests := true, laidLooks := .later }
def LegacyTypesCardSaid : Prop := Claim7.holds Tryd.pinned (.plain (OpenSpec.ofChange legacyTypesSpec)) legacyTypesCard

/-- THE TIED CARD OF 'clavierlaw11.LegacyForms'. -/
def legacyFormsCard : Claim7 := { stood := { row := legacyFormsRow, standIns := [], harness := (true, "b53c235408faf0090a4537a2f91afbe05c4e1048f156a10c9247b4b1a7b1f123"), looks := false }, kinds := [], alts := [], laidByText := true, laidKinds := [.data, .data, .data, .data, .widerDeep], laidTests := true, laidLooks := .later }
def LegacyFormsCardSaid : Prop := Claim7.holds Tryd.pinned (.plain (OpenSpec.ofChange legacyFormsSpec)) legacyFormsCard

/-- THE TIED CARD OF 'clavierlaw11.LegacyAlt'. -/
def legacyAltCard : Claim7 := { stood := { row := legacyAltRow, standIns := [], harness := (true, "b53c235408faf0090a4537a2f91afbe05c4e1048f156a10c9247b4b1a7b1f123"), looks := false }, kinds := [], alts := [], laidByText := true, laidKinds := [.data, .data, .data, .data, .widerDeep], laidTests := true, laidLooks := .later }
def LegacyAltCardSaid : Prop := Claim7.holds Tryd.pinned (.plain (OpenSpec.ofChange legacyAltSpec)) legacyAltCard

/-- THE TIED CARD OF 'clavierlaw11.LegacyText'. -/
def legacyTextCard : Claim7 := { stood := { row := legacyTextRow, standIns := [], harness := (true, "b53c235408faf0090a4537a2f91afbe05c4e1048f156a10c9247b4b1a7b1f123"), looks := false }, kinds := [], alts := [], laidByText := true, laidKinds := [.data, .data, .data, .data, .widerDeep], laidTests := true, laidLooks := .later }
def LegacyTextCardSaid : Prop := Claim7.holds Tryd.pinned (.plain (OpenSpec.ofChange legacyTextSpec)) legacyTextCard

/-- THE SECOND FORM's CARD OF 'clavierlaw11.LegacyTypes'. -/
def legacyTypesUptoCard : Claim7 := { stood := { row := legacyTypesUptoRow, standIns := [], harness := (true, "b53c235408faf0090a4537a2f91afbe05c4e1048f156a10c9247b4b1a7b1f123"), looks := false }, kinds := [], alts := [], laidByText := true, laidKinds := [.data, .data, .data, .data, .widerDeep], laidTests := true, laidLooks := .later }
def LegacyTypesUptoCardSaid : Prop := Claim7.holds Tryd.pinned (.plain (OpenSpec.upto legacyTypesSpec)) legacyTypesUptoCard

/-- THE SECOND FORM's CARD OF 'clavierlaw11.LegacyForms'. -/
def legacyFormsUptoCard : Claim7 := { stood := { row := legacyFormsUptoRow, standIns := [], harness := (true, "b53c235408faf0090a4537a2f91afbe05c4e1048f156a10c9247b4b1a7b1f123"), looks := false }, kinds := [], alts := [], laidByText := true, laidKinds := [.data, .data, .data, .data, .widerDeep], laidTests := true, laidLooks := .later }
def LegacyFormsUptoCardSaid : Prop := Claim7.holds Tryd.pinned (.plain (OpenSpec.upto legacyFormsSpec)) legacyFormsUptoCard

/-- THE SECOND FORM's CARD OF 'clavierlaw11.LegacyAlt'. -/
def legacyAltUptoCard : Claim7 := { stood := { row := legacyAltUptoRow, standIns := [], harness := (true, "b53c235408faf0090a4537a2f91afbe05c4e1048f156a10c9247b4b1a7b1f123"), looks := false }, kinds := [], alts := [], laidByText := true, laidKinds := [.data, .data, .data, .data, .widerDeep], laidTests := true, laidLooks := .later }
def LegacyAltUptoCardSaid : Prop := Claim7.holds Tryd.pinned (.plain (OpenSpec.upto legacyAltSpec)) legacyAltUptoCard

/-- THE SECOND FORM's CARD OF 'clavierlaw11.LegacyText'. -/
def legacyTextUptoCard : Claim7 := { stood := { row := legacyTextUptoRow, standIns := [], harness := (true, "b53c235408faf0090a4537a2f91afbe05c4e1048f156a10c9247b4b1a7b1f123"), looks := false }, kinds := [], alts := [], laidByText := true, laidKinds := [.data, .data, .data, .data, .widerDeep], laidTests := true, laidLooks := .later }
def LegacyTextUptoCardSaid : Prop := Claim7.holds Tryd.pinned (.plain (OpenSpec.upto legacyTextSpec)) legacyTextUptoCard
end Rows
end Go.Proofs.YtbjmfhcgkpjcfaaDoor

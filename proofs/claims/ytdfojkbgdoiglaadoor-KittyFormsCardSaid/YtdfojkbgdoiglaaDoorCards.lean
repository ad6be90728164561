/-
  DERIVED. GIVEN WITH THE SEED: THE CARDS: each row of YtdfojkbgdoiglaaDoorRows.lean that lists a variable, with what it lists TIED to the program's text (the seventh form; the later family's looks); each row that meets fmt, with fmt's text TOLD by the authors' own Lean function (tested against real Go, not proved from fmt's source: count such statements apart). THE CARD IS WHAT COUNTS. Prove the row's statement (the work); the ties are given (YtdfojkbgdoiglaaDoorTie.lean); close each card by the builder's one call (the guide's Derived/Test/ToyasCard.lean, 'card_holds'). Laid BY PROGRAM, IN A SANDBOX (cutbox-door.mjs). By AI agents, Wed Nov 11 2026. No macro, syntax, notation, axiom, sorry.
-/
import Derived.Test.YtdfojkbgdoiglaaDoorRows
import GoSem.ClaimSeven
namespace Go.Proofs.YtdfojkbgdoiglaaDoor
namespace Rows

/-- THE TIED CARD OF 'clavierlaw13.KittyApart'. -/
def kittyApartCard : Claim7 := { stood := { row := kittyApartRow, standIns := [], harness := (true, "e4653ce9ce10b85649c3c121597062279194f6fb17e28e0e72c18447d0c412d0"), looks := false }, kinds := [], alts := [], laidByText := true, laidKinds := [.data, .data, .data, .data, .widerDeep], laidTests := true, laidLooks := .later }
def KittyApartCardSaid : Prop := Claim7.holds Tryd.pinned (.plain (OpenSpec.ofChange kittyApartSpec)) kittyApartCard

/-- THE TIED CARD OF 'clavierlaw13.KittyText'. -/
def kittyTextCard : Claim7 := { stood := { row := kittyTextRow, standIns := [], harness := (true, "e4653ce9ce10b85649c3c121597062279194f6fb17e28e0e72c18447d0c412d0"), looks := false }, kinds := [], alts := [], laidByText := true, laidKinds := [.data, .data, .data, .data, .widerDeep], laidTests := true, laidLooks := .later }
def KittyTextCardSaid : Prop := Claim7.holds Tryd.pinned (.plain (OpenSpec.ofChange kittyTextSpec)) kittyTextCard

/-- THE TIED CARD OF 'clavierlaw13.KittyForms'. -/
def kittyFormsCard : Claim7 := { stood := { row := kittyFormsRow, standIns := [], harness := (true, "e4653ce9ce10b85649c3c121597062279194f6fb17e28e0e72c18447d0c412d0"), looks := false }, kinds := [], alts := [], laidByText := true, laidKinds := [.data, .data, .data, .data, .widerDeep], laidTests := true, laidLooks := .later }
def KittyFormsCardSaid : Prop := Claim7.holds Tryd.pinned (.plain (OpenSpec.ofChange kittyFormsSpec)) kittyFormsCard

/-- THE SECOND FORM's CARD OF 'clavierlaw13.KittyApart'. -/
def kittyApartUptoCard : Claim7 := { stood := { row := kittyApartUptoRow, standIns := [], harness := (true, "e4653ce9ce10b85649c3c121597062279194f6fb17e28e0e72c18447d0c412d0"), looks := false }, kinds := [], alts := [], laidByText := true, laidKinds := [.data, .data, .data, .data, .widerDeep], laidTests := true, laidLooks := .later }
def KittyApartUptoCardSaid : Prop := Claim7.holds Tryd.pinned (.plain (OpenSpec.upto kittyApartSpec)) kittyApartUptoCard

/-- THE SECOND FORM's CARD OF 'clavierlaw13.KittyText'. -/
def kittyTextUptoCard : Claim7 := { stood := { row := kittyTextUptoRow, standIns := [], harness := (true, "e4653ce9ce10b85649c3c121597062279194f6fb17e28e0e72c18447d0c412d0"), looks := false }, kinds := [], alts := [], laidByText := true, laidKinds := [.data, .data, .data, .data, .widerDeep], laidTests := true, laidLooks := .later }
def KittyTextUptoCardSaid : Prop := Claim7.holds Tryd.pinned (.plain (OpenSpec.upto kittyTextSpec)) kittyTextUptoCard

/-- THE SECOND FORM's CARD OF 'clavierlaw13.KittyForms'. -/
def kittyFormsUptoCard : Claim7 := { stood := { row := kittyFormsUptoRow, standIns := [], harness := (true, "e4653ce9ce10b85649c3c121597062279194f6fb17e28e0e72c18447d0c412d0"), looks := false }, kinds := [], alts := [], laidByText := true, laidKinds := [.data, .data, .data, .data, .widerDeep], laidTests := true, laidLooks := .later }
def KittyFormsUptoCardSaid : Prop := Claim7.holds Tryd.pinned (.plain (OpenSpec.upto kittyFormsSpec)) kittyFormsUptoCard
end Rows
end Go.Proofs.YtdfojkbgdoiglaaDoor

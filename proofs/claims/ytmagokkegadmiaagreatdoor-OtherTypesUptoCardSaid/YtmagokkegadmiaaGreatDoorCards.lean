/-
  DERIVED. GIVEN WITH THE SEED: THE CARDS: each row of YtmagokkegadmiaaGreatDoorRows.lean that lists a variable, with what it lists TIED to the program's text (the seventh form; the later family's looks); each row that meets fmt, with fmt's text TOLD by the authors' own Lean function (tested against real Go, not proved from fmt's source: count such statements apart). THE CARD IS WHAT COUNTS. Prove the row's statement (the work); the ties are given (YtmagokkegadmiaaGreatDoorTie.lean); close each card by the builder's one call (the guide's Derived/Test/ToyasCard.lean, 'card_holds'). Laid BY PROGRAM, IN A SANDBOX (cutbox-door.mjs). By AI agents, Wed Nov 11 2026. No macro, syntax, notation, axiom, sorry.
-/
import Derived.Test.YtmagokkegadmiaaGreatDoorRows
import GoSem.ClaimSeven
namespace Go.Proofs.YtmagokkegadmiaaGreatDoor
namespace Rows

/-- THE TIED CARD OF 'clavierlaw12.OtherTells'. -/
def otherTellsCard : Claim7 := { stood := { row := otherTellsRow, standIns := [], harness := (true, "ce57491adc44b3136274fd97d6d1333aa9ec19b29103dd54ed43d9c0e0c5ba6a"), looks := false }, kinds := [], alts := [], laidByText := true, laidKinds := [.data, .data, .data, .data, .widerDeep], laidTests := true, laidLooks := .later }
def OtherTellsCardSaid : Prop := Claim7.holds Tryz.pinned (.plain (OpenSpec.ofChange otherTellsSpec)) otherTellsCard

/-- THE TIED CARD OF 'clavierlaw12.OtherBacks'. -/
def otherBacksCard : Claim7 := { stood := { row := otherBacksRow, standIns := [], harness := (true, "ce57491adc44b3136274fd97d6d1333aa9ec19b29103dd54ed43d9c0e0c5ba6a"), looks := false }, kinds := [], alts := [], laidByText := true, laidKinds := [.data, .data, .data, .data, .widerDeep], laidTests := true, laidLooks := .later }
def OtherBacksCardSaid : Prop := Claim7.holds Tryz.pinned (.plain (OpenSpec.ofChange otherBacksSpec)) otherBacksCard

/-- THE TIED CARD OF 'clavierlaw12.OtherRound'. -/
def otherRoundCard : Claim7 := { stood := { row := otherRoundRow, standIns := [], harness := (true, "ce57491adc44b3136274fd97d6d1333aa9ec19b29103dd54ed43d9c0e0c5ba6a"), looks := false }, kinds := [], alts := [], laidByText := true, laidKinds := [.data, .data, .data, .data, .widerDeep], laidTests := true, laidLooks := .later }
def OtherRoundCardSaid : Prop := Claim7.holds Tryz.pinned (.plain (OpenSpec.ofChange otherRoundSpec)) otherRoundCard

/-- THE TIED CARD OF 'clavierlaw12.OtherSame'. -/
def otherSameCard : Claim7 := { stood := { row := otherSameRow, standIns := [], harness := (true, "ce57491adc44b3136274fd97d6d1333aa9ec19b29103dd54ed43d9c0e0c5ba6a"), looks := false }, kinds := [], alts := [], laidByText := true, laidKinds := [.data, .data, .data, .data, .widerDeep], laidTests := true, laidLooks := .later }
def OtherSameCardSaid : Prop := Claim7.holds Tryz.pinned (.plain (OpenSpec.ofChange otherSameSpec)) otherSameCard

/-- THE TIED CARD OF 'clavierlaw12.OtherTypes'. -/
def otherTypesCard : Claim7 := { stood := { row := otherTypesRow, standIns := [], harness := (true, "ce57491adc44b3136274fd97d6d1333aa9ec19b29103dd54ed43d9c0e0c5ba6a"), looks := false }, kinds := [], alts := [], laidByText := true, laidKinds := [.data, .data, .data, .data, .widerDeep], laidTests := true, laidLooks := .later }
def OtherTypesCardSaid : Prop := Claim7.holds Tryz.pinned (.plain (OpenSpec.ofChange otherTypesSpec)) otherTypesCard

/-- THE SECOND FORM's CARD OF 'clavierlaw12.OtherTells'. -/
def otherTellsUptoCard : Claim7 := { stood := { row := otherTellsUptoRow, standIns := [], harness := (true, "ce57491adc44b3136274fd97d6d1333aa9ec19b29103dd54ed43d9c0e0c5ba6a"), looks := false }, kinds := [], alts := [], laidByText := true, laidKinds := [.data, .data, .data, .data, .widerDeep], laidTests := true, laidLooks := .later }
def OtherTellsUptoCardSaid : Prop := Claim7.holds Tryz.pinned (.plain (OpenSpec.upto otherTellsSpec)) otherTellsUptoCard

/-- THE SECOND FORM's CARD OF 'clavierlaw12.OtherBacks'. -/
def otherBacksUptoCard : Claim7 := { stood := { row := otherBacksUptoRow, standIns := [], harness := (true, "ce57491adc44b3136274fd97d6d1333aa9ec19b29103dd54ed43d9c0e0c5ba6a"), looks := false }, kinds := [], alts := [], laidByText := true, laidKinds := [.data, .data, .data, .data, .widerDeep], laidTests := true, laidLooks := .later }
def OtherBacksUptoCardSaid : Prop := Claim7.holds Tryz.pinned (.plain (OpenSpec.upto otherBacksSpec)) otherBacksUptoCard

/-- THE SECOND FORM's CARD OF 'clavierlaw12.OtherRound'. -/
def otherRoundUptoCard : Claim7 := { stood := { row := otherRoundUptoRow, standIns := [], harness := (true, "ce57491adc44b3136274fd97d6d1333aa9ec19b29103dd54ed43d9c0e0c5ba6a"), looks := false }, kinds := [], alts := [], laidByText := true, laidKinds := [.data, .data, .data, .data, .widerDeep], laidTests := true, laidLooks := .later }
def OtherRoundUptoCardSaid : Prop := Claim7.holds Tryz.pinned (.plain (OpenSpec.upto otherRoundSpec)) otherRoundUptoCard

/-- THE SECOND FORM's CARD OF 'clavierlaw12.OtherSame'. -/
def otherSameUptoCard : Claim7 := { stood := { row := otherSameUptoRow, standIns := [], harness := (true, "ce57491adc44b3136274fd97d6d1333aa9ec19b29103dd54ed43d9c0e0c5ba6a"), looks := false }, kinds := [], alts := [], laidByText := true, laidKinds := [.data, .data, .data, .data, .widerDeep], laidTests := true, laidLooks := .later }
def OtherSameUptoCardSaid : Prop := Claim7.holds Tryz.pinned (.plain (OpenSpec.upto otherSameSpec)) otherSameUptoCard

/-- THE SECOND FORM's CARD OF 'clavierlaw12.OtherTypes'. -/
def otherTypesUptoCard : Claim7 := { stood := { row := otherTypesUptoRow, standIns := [], harness := (true, "ce57491adc44b3136274fd97d6d1333aa9ec19b29103dd54ed43d9c0e0c5ba6a"), looks := false }, kinds := [], alts := [], laidByText := true, laidKinds := [.data, .data, .data, .data, .widerDeep], laidTests := true, laidLooks := .later }
def OtherTypesUptoCardSaid : Prop := Claim7.holds Tryz.pinned (.plain (OpenSpec.upto otherTypesSpec)) otherTypesUptoCard
end Rows
end Go.Proofs.YtmagokkegadmiaaGreatDoor

/-
  DERIVED. GIVEN WITH THE SEED: THE CARDS: each row of YtceipblcdcgljaaGreatDoorRows.lean that lists a variable, with what it lists TIED to the program's text (the seventh form; the later family's looks); each row that meets fmt, with fmt's text TOLD by the authors' own Lean function (tested against real Go, not proved from fmt's source: count such statements apart). THE CARD IS WHAT COUNTS. Prove the row's statement (the work); the ties are given (YtceipblcdcgljaaGreatDoorTie.lean); close each card by the builder's one call (the guide's Derived/Test/ToyasCard.lean, 'card_holds'). Laid BY PROGRAM, IN A SANDBOX (cutbox-door.mjs). By AI agents, Wed Nov 11 2026. No macro, syntax, notation, axiom, sorry.
-/
import Derived.Test.YtceipblcdcgljaaGreatDoorRows
import GoSem.ClaimSeven
namespace Go.Proofs.YtceipblcdcgljaaGreatDoor
namespace Rows

/-- THE TIED CARD OF 'clavierlaw14.BoardTells'. -/
def boardTellsCard : Claim7 := { stood := { row := boardTellsRow, standIns := [], harness := (true, "c7c01803500937c52919dbe30de397f55ce8ac41b25866eb4fac1fde942d6df6"), looks := false }, kinds := [], alts := [], laidByText := true, laidKinds := [.data, .data, .data, .data, .widerDeep], laidTests := true, laidLooks := .later }
def BoardTellsCardSaid : Prop := Claim7.holds Tryz.pinned (.plain (OpenSpec.ofChange boardTellsSpec)) boardTellsCard

/-- THE TIED CARD OF 'clavierlaw14.BoardApart'. -/
def boardApartCard : Claim7 := { stood := { row := boardApartRow, standIns := [], harness := (true, "c7c01803500937c52919dbe30de397f55ce8ac41b25866eb4fac1fde942d6df6"), looks := false }, kinds := [], alts := [], laidByText := true, laidKinds := [.data, .data, .data, .data, .widerDeep], laidTests := true, laidLooks := .later }
def BoardApartCardSaid : Prop := Claim7.holds Tryz.pinned (.plain (OpenSpec.ofChange boardApartSpec)) boardApartCard

/-- THE TIED CARD OF 'clavierlaw14.BoardLock'. -/
def boardLockCard : Claim7 := { stood := { row := boardLockRow, standIns := [], harness := (true, "c7c01803500937c52919dbe30de397f55ce8ac41b25866eb4fac1fde942d6df6"), looks := false }, kinds := [], alts := [], laidByText := true, laidKinds := [.data, .data, .data, .data, .widerDeep], laidTests := true, laidLooks := .later }
def BoardLockCardSaid : Prop := Claim7.holds Tryz.pinned (.plain (OpenSpec.ofChange boardLockSpec)) boardLockCard

/-- THE TIED CARD OF 'clavierlaw14.BoardWhole'. -/
def boardWholeCard : Claim7 := { stood := { row := boardWholeRow, standIns := [], harness := (true, "c7c01803500937c52919dbe30de397f55ce8ac41b25866eb4fac1fde942d6df6"), looks := false }, kinds := [], alts := [], laidByText := true, laidKinds := [.data, .data, .data, .data, .widerDeep], laidTests := true, laidLooks := .later }
def BoardWholeCardSaid : Prop := Claim7.holds Tryz.pinned (.plain (OpenSpec.ofChange boardWholeSpec)) boardWholeCard

/-- THE TIED CARD OF 'clavierlaw14.BoardFlags'. -/
def boardFlagsCard : Claim7 := { stood := { row := boardFlagsRow, standIns := [], harness := (true, "c7c01803500937c52919dbe30de397f55ce8ac41b25866eb4fac1fde942d6df6"), looks := false }, kinds := [], alts := [], laidByText := true, laidKinds := [.data, .data, .data, .data, .widerDeep], laidTests := true, laidLooks := .later }
def BoardFlagsCardSaid : Prop := Claim7.holds Tryz.pinned (.plain (OpenSpec.ofChange boardFlagsSpec)) boardFlagsCard

/-- THE TIED CARD OF 'clavierlaw14.BoardTypes'. -/
def boardTypesCard : Claim7 := { stood := { row := boardTypesRow, standIns := [], harness := (true, "c7c01803500937c52919dbe30de397f55ce8ac41b25866eb4fac1fde942d6df6"), looks := false }, kinds := [], alts := [], laidByText := true, laidKinds := [.data, .data, .data, .data, .widerDeep], laidTests := true, laidLooks := .later }
def BoardTypesCardSaid : Prop := Claim7.holds Tryz.pinned (.plain (OpenSpec.ofChange boardTypesSpec)) boardTypesCard

/-- THE SECOND FORM's CARD OF 'clavierlaw14.BoardTells'. -/
def boardTellsUptoCard : Claim7 := { stood := { row := boardTellsUptoRow, standIns := [], harness := (true, "c7c01803500937c52919dbe30de397f55ce8ac41b25866eb4fac1fde942d6df6"), looks := false }, kinds := [], alts := [], laidByText := true, laidKinds := [.data, .data, .data, .data, .widerDeep], laidTests := true, laidLooks := .later }
def BoardTellsUptoCardSaid : Prop := Claim7.holds Tryz.pinned (.plain (OpenSpec.upto boardTellsSpec)) boardTellsUptoCard

/-- THE SECOND FORM's CARD OF 'clavierlaw14.BoardApart'. -/
def boardApartUptoCard : Claim7 := { stood := { row := boardApartUptoRow, standIns := [], harness := (true, "c7c01803500937c52919dbe30de397f55ce8ac41b25866eb4fac1fde942d6df6"), looks := false }, kinds := [], alts := [], laidByText := true, laidKinds := [.data, .data, .data, .data, .widerDeep], laidTests := true, laidLooks := .later }
def BoardApartUptoCardSaid : Prop := Claim7.holds Tryz.pinned (.plain (OpenSpec.upto boardApartSpec)) boardApartUptoCard

/-- THE SECOND FORM's CARD OF 'clavierlaw14.BoardLock'. -/
def boardLockUptoCard : Claim7 := { stood := { row := boardLockUptoRow, standIns := [], harness := (true, "c7c01803500937c52919dbe30de397f55ce8ac41b25866eb4fac1fde942d6df6"), looks := false }, kinds := [], alts := [], laidByText := true, laidKinds := [.data, .data, .data, .data, .widerDeep], laidTests := true, laidLooks := .later }
def BoardLockUptoCardSaid : Prop := Claim7.holds Tryz.pinned (.plain (OpenSpec.upto boardLockSpec)) boardLockUptoCard

/-- THE SECOND FORM's CARD OF 'clavierlaw14.BoardWhole'. -/
def boardWholeUptoCard : Claim7 := { stood := { row := boardWholeUptoRow, standIns := [], harness := (true, "c7c01803500937c52919dbe30de397f55ce8ac41b25866eb4fac1fde942d6df6"), looks := false }, kinds := [], alts := [], laidByText := true, laidKinds := [.data, .data, .data, .data, .widerDeep], laidTests := true, laidLooks := .later }
def BoardWholeUptoCardSaid : Prop := Claim7.holds Tryz.pinned (.plain (OpenSpec.upto boardWholeSpec)) boardWholeUptoCard

/-- THE SECOND FORM's CARD OF 'clavierlaw14.BoardFlags'. -/
def boardFlagsUptoCard : Claim7 := { stood := { row := boardFlagsUptoRow, standIns := [], harness := (true, "c7c01803500937c52919dbe30de397f55ce8ac41b25866eb4fac1fde942d6df6"), looks := false }, kinds := [], alts := [], laidByText := true, laidKinds := [.data, .data, .data, .data, .widerDeep], laidTests := true, laidLooks := .later }
def BoardFlagsUptoCardSaid : Prop := Claim7.holds Tryz.pinned (.plain (OpenSpec.upto boardFlagsSpec)) boardFlagsUptoCard

/-- THE SECOND FORM's CARD OF 'clavierlaw14.BoardTypes'. -/
def boardTypesUptoCard : Claim7 := { stood := { row := boardTypesUptoRow, standIns := [], harness := (true, "c7c01803500937c52919dbe30de397f55ce8ac41b25866eb4fac1fde942d6df6"), looks := false }, kinds := [], alts := [], laidByText := true, laidKinds := [.data, .data, .data, .data, .widerDeep], laidTests := true, laidLooks := .later }
def BoardTypesUptoCardSaid : Prop := Claim7.holds Tryz.pinned (.plain (OpenSpec.upto boardTypesSpec)) boardTypesUptoCard
end Rows
end Go.Proofs.YtceipblcdcgljaaGreatDoor

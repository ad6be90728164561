/-
  DERIVED. GIVEN WITH THE SEED: THE CARDS: each row of YtkicenpcklknnaaDoorRows.lean that lists a variable, with what it lists TIED to the program's text (the seventh form; the later family's looks); each row that meets fmt, with fmt's text TOLD by the authors' own Lean function (tested against real Go, not proved from fmt's source: count such statements apart). THE CARD IS WHAT COUNTS. Prove the row's statement (the work); the ties are given (YtkicenpcklknnaaDoorTie.lean); close each card by the builder's one call (the guide's Derived/Test/ToyasCard.lean, 'card_holds'). Laid BY PROGRAM, IN A SANDBOX (cutbox-door.mjs). By AI agents, Wed Nov 11 2026. No macro, syntax, notation, axiom, sorry.
-/
import Derived.Test.YtkicenpcklknnaaDoorRows
import GoSem.ClaimSeven
namespace Go.Proofs.YtkicenpcklknnaaDoor
namespace Rows

/-- THE TIED CARD OF 'clavierlaw09.KeysLook'. -/
def keysLookCard : Claim7 := { stood := { row := keysLookRow, standIns := [], harness := (true, "46e93c6d73bfd4d85d22bfe3ebc9d709e7724046a00a79b2ad293590634c48e1"), looks := false }, kinds := [], alts := [], laidByText := true, laidKinds := [.data, .widerDeep], laidTests := true, laidLooks := .later }
def KeysLookCardSaid : Prop := Claim7.holds Tryd.pinned (.plain (OpenSpec.ofChange keysLookSpec)) keysLookCard

/-- THE TIED CARD OF 'clavierlaw09.KeysRow'. -/
def keysRowCard : Claim7 := { stood := { row := keysRowRow, standIns := [], harness := (true, "46e93c6d73bfd4d85d22bfe3ebc9d709e7724046a00a79b2ad293590634c48e1"), looks := false }, kinds := [], alts := [], laidByText := true, laidKinds := [.data, .widerDeep], laidTests := true, laidLooks := .later }
def KeysRowCardSaid : Prop := Claim7.holds Tryd.pinned (.plain (OpenSpec.ofChange keysRowSpec)) keysRowCard

/-- THE TIED CARD OF 'clavierlaw09.KeysFind'. -/
def keysFindCard : Claim7 := { stood := { row := keysFindRow, standIns := [], harness := (true, "46e93c6d73bfd4d85d22bfe3ebc9d709e7724046a00a79b2ad293590634c48e1"), looks := false }, kinds := [], alts := [], laidByText := true, laidKinds := [.data, .widerDeep], laidTests := true, laidLooks := .later }
def KeysFindCardSaid : Prop := Claim7.holds Tryd.pinned (.plain (OpenSpec.ofChange keysFindSpec)) keysFindCard

/-- THE TIED CARD OF 'clavierlaw09.KeysBack'. -/
def keysBackCard : Claim7 := { stood := { row := keysBackRow, standIns := [], harness := (true, "46e93c6d73bfd4d85d22bfe3ebc9d709e7724046a00a79b2ad293590634c48e1"), looks := false }, kinds := [], alts := [], laidByText := true, laidKinds := [.data, .widerDeep], laidTests := true, laidLooks := .later }
def KeysBackCardSaid : Prop := Claim7.holds Tryd.pinned (.plain (OpenSpec.ofChange keysBackSpec)) keysBackCard

/-- THE TIED CARD OF 'clavierlaw09.KeysKinds'. -/
def keysKindsCard : Claim7 := { stood := { row := keysKindsRow, standIns := [], harness := (true, "46e93c6d73bfd4d85d22bfe3ebc9d709e7724046a00a79b2ad293590634c48e1"), looks := false }, kinds := [], alts := [], laidByText := true, laidKinds := [.data, .widerDeep], laidTests := true, laidLooks := .later }
def KeysKindsCardSaid : Prop := Claim7.holds Tryd.pinned (.plain (OpenSpec.ofChange keysKindsSpec)) keysKindsCard

/-- THE TIED CARD OF 'clavierlaw09.KeysPad'. -/
def keysPadCard : Claim7 := { stood := { row := keysPadRow, standIns := [], harness := (true, "46e93c6d73bfd4d85d22bfe3ebc9d709e7724046a00a79b2ad293590634c48e1"), looks := false }, kinds := [], alts := [], laidByText := true, laidKinds := [.data, .widerDeep], laidTests := true, laidLooks := .later }
def KeysPadCardSaid : Prop := Claim7.holds Tryd.pinned (.plain (OpenSpec.ofChange keysPadSpec)) keysPadCard

/-- THE SECOND FORM's CARD OF 'clavierlaw09.KeysLook'. -/
def keysLookUptoCard : Claim7 := { stood := { row := keysLookUptoRow, standIns := [], harness := (true, "46e93c6d73bfd4d85d22bfe3ebc9d709e7724046a00a79b2ad293590634c48e1"), looks := false }, kinds := [], alts := [], laidByText := true, laidKinds := [.data, .widerDeep], laidTests := true, laidLooks := .later }
def KeysLookUptoCardSaid : Prop := Claim7.holds Tryd.pinned (.plain (OpenSpec.upto keysLookSpec)) keysLookUptoCard

/-- THE SECOND FORM's CARD OF 'clavierlaw09.KeysRow'. -/
def keysRowUptoCard : Claim7 := { stood := { row := keysRowUptoRow, standIns := [], harness := (true, "46e93c6d73bfd4d85d22bfe3ebc9d709e7724046a00a79b2ad293590634c48e1"), looks := false }, kinds := [], alts := [], laidByText := true, laidKinds := [.data, .widerDeep], laidTests := true, laidLooks := .later }
def KeysRowUptoCardSaid : Prop := Claim7.holds Tryd.pinned (.plain (OpenSpec.upto keysRowSpec)) keysRowUptoCard

/-- THE SECOND FORM's CARD OF 'clavierlaw09.KeysFind'. -/
def keysFindUptoCard : Claim7 := { stood := { row := keysFindUptoRow, standIns := [], harness := (true, "46e93c6d73bfd4d85d22bfe3ebc9d709e7724046a00a79b2ad293590634c48e1"), looks := false }, kinds := [], alts := [], laidByText := true, laidKinds := [.data, .widerDeep], laidTests := true, laidLooks := .later }
def KeysFindUptoCardSaid : Prop := Claim7.holds Tryd.pinned (.plain (OpenSpec.upto keysFindSpec)) keysFindUptoCard

/-- THE SECOND FORM's CARD OF 'clavierlaw09.KeysBack'. -/
def keysBackUptoCard : Claim7 := { stood := { row := keysBackUptoRow, standIns := [], harness := (true, "46e93c6d73bfd4d85d22bfe3ebc9d709e7724046a00a79b2ad293590634c48e1"), looks := false }, kinds := [], alts := [], laidByText := true, laidKinds := [.data, .widerDeep], laidTests := true, laidLooks := .later }
def KeysBackUptoCardSaid : Prop := Claim7.holds Tryd.pinned (.plain (OpenSpec.upto keysBackSpec)) keysBackUptoCard

/-- THE SECOND FORM's CARD OF 'clavierlaw09.KeysKinds'. -/
def keysKindsUptoCard : Claim7 := { stood := { row := keysKindsUptoRow, standIns := [], harness := (true, "46e93c6d73bfd4d85d22bfe3ebc9d709e7724046a00a79b2ad293590634c48e1"), looks := false }, kinds := [], alts := [], laidByText := true, laidKinds := [.data, .widerDeep], laidTests := true, laidLooks := .later }
def KeysKindsUptoCardSaid : Prop := Claim7.holds Tryd.pinned (.plain (OpenSpec.upto keysKindsSpec)) keysKindsUptoCard

/-- THE SECOND FORM's CARD OF 'clavierlaw09.KeysPad'. -/
def keysPadUptoCard : Claim7 := { stood := { row := keysPadUptoRow, standIns := [], harness := (true, "46e93c6d73bfd4d85d22bfe3ebc9d709e7724046a00a79b2ad293590634c48e1"), looks := false }, kinds := [], alts := [], laidByText := true, laidKinds := [.data, .widerDeep], laidTests := true, laidLooks := .later }
def KeysPadUptoCardSaid : Prop := Claim7.holds Tryd.pinned (.plain (OpenSpec.upto keysPadSpec)) keysPadUptoCard
end Rows
end Go.Proofs.YtkicenpcklknnaaDoor

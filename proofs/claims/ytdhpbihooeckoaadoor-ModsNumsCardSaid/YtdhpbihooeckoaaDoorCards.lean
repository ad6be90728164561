/-
  DERIVED. GIVEN WITH THE SEED: THE CARDS: each row of YtdhpbihooeckoaaDoorRows.lean that lists a variable, with what it lists TIED to the program's text (the seventh form; the later family's looks); each row that meets fmt, with fmt's text TOLD by the authors' own Lean function (tested against real Go, not proved from fmt's source: count such statements apart). THE CARD IS WHAT COUNTS. Prove the row's statement (the work); the ties are given (YtdhpbihooeckoaaDoorTie.lean); close each card by the builder's one call (the guide's Derived/Test/ToyasCard.lean, 'card_holds'). Laid BY PROGRAM, IN A SANDBOX (cutbox-door.mjs). By AI agents, Wed Nov 11 2026. No macro, syntax, notation, axiom, sorry.
-/
import Derived.Test.YtdhpbihooeckoaaDoorRows
import GoSem.ClaimSeven
namespace Go.Proofs.YtdhpbihooeckoaaDoor
namespace Rows

/-- THE TIED CARD OF 'clavierlaw10.ModsMay'. -/
def modsMayCard : Claim7 := { stood := { row := modsMayRow, standIns := [], harness := (true, "232536f22024e2a4eaea0942e0c6174b5a528d32df1c3e31a501f50f6089edd9"), looks := false }, kinds := [], alts := [], laidByText := true, laidKinds := [.data, .widerDeep], laidTests := true, laidLooks := .later }
def ModsMayCardSaid : Prop := Claim7.holds Tryd.pinned (.plain (OpenSpec.ofChange modsMaySpec)) modsMayCard

/-- THE TIED CARD OF 'clavierlaw10.ModsNums'. -/
def modsNumsCard : Claim7 := { stood := { row := modsNumsRow, standIns := [], harness := (true, "232536f22024e2a4eaea0942e0c6174b5a528d32df1c3e31a501f50f6089edd9"), looks := false }, kinds := [], alts := [], laidByText := true, laidKinds := [.data, .widerDeep], laidTests := true, laidLooks := .later }
def ModsNumsCardSaid : Prop := Claim7.holds Tryd.pinned (.plain (OpenSpec.ofChange modsNumsSpec)) modsNumsCard

/-- THE TIED CARD OF 'clavierlaw10.ModsFold'. -/
def modsFoldCard : Claim7 := { stood := { row := modsFoldRow, standIns := [], harness := (true, "232536f22024e2a4eaea0942e0c6174b5a528d32df1c3e31a501f50f6089edd9"), looks := false }, kinds := [], alts := [], laidByText := true, laidKinds := [.data, .widerDeep], laidTests := true, laidLooks := .later }
def ModsFoldCardSaid : Prop := Claim7.holds Tryd.pinned (.plain (OpenSpec.ofChange modsFoldSpec)) modsFoldCard

/-- THE TIED CARD OF 'clavierlaw10.ModsBack'. -/
def modsBackCard : Claim7 := { stood := { row := modsBackRow, standIns := [], harness := (true, "232536f22024e2a4eaea0942e0c6174b5a528d32df1c3e31a501f50f6089edd9"), looks := false }, kinds := [], alts := [], laidByText := true, laidKinds := [.data, .widerDeep], laidTests := true, laidLooks := .later }
def ModsBackCardSaid : Prop := Claim7.holds Tryd.pinned (.plain (OpenSpec.ofChange modsBackSpec)) modsBackCard

/-- THE TIED CARD OF 'clavierlaw10.ModsCase'. -/
def modsCaseCard : Claim7 := { stood := { row := modsCaseRow, standIns := [], harness := (true, "232536f22024e2a4eaea0942e0c6174b5a528d32df1c3e31a501f50f6089edd9"), looks := false }, kinds := [], alts := [], laidByText := true, laidKinds := [.data, .widerDeep], laidTests := true, laidLooks := .later }
def ModsCaseCardSaid : Prop := Claim7.holds Tryd.pinned (.plain (OpenSpec.ofChange modsCaseSpec)) modsCaseCard

/-- THE TIED CARD OF 'clavierlaw10.ModsLess'. -/
def modsLessCard : Claim7 := { stood := { row := modsLessRow, standIns := [], harness := (true, "232536f22024e2a4eaea0942e0c6174b5a528d32df1c3e31a501f50f6089edd9"), looks := false }, kinds := [], alts := [], laidByText := true, laidKinds := [.data, .widerDeep], laidTests := true, laidLooks := .later }
def ModsLessCardSaid : Prop := Claim7.holds Tryd.pinned (.plain (OpenSpec.ofChange modsLessSpec)) modsLessCard

/-- THE SECOND FORM's CARD OF 'clavierlaw10.ModsMay'. -/
def modsMayUptoCard : Claim7 := { stood := { row := modsMayUptoRow, standIns := [], harness := (true, "232536f22024e2a4eaea0942e0c6174b5a528d32df1c3e31a501f50f6089edd9"), looks := false }, kinds := [], alts := [], laidByText := true, laidKinds := [.data, .widerDeep], laidTests := true, laidLooks := .later }
def ModsMayUptoCardSaid : Prop := Claim7.holds Tryd.pinned (.plain (OpenSpec.upto modsMaySpec)) modsMayUptoCard

/-- THE SECOND FORM's CARD OF 'clavierlaw10.ModsNums'. -/
def modsNumsUptoCard : Claim7 := { stood := { row := modsNumsUptoRow, standIns := [], harness := (true, "232536f22024e2a4eaea0942e0c6174b5a528d32df1c3e31a501f50f6089edd9"), looks := false }, kinds := [], alts := [], laidByText := true, laidKinds := [.data, .widerDeep], laidTests := true, laidLooks := .later }
def ModsNumsUptoCardSaid : Prop := Claim7.holds Tryd.pinned (.plain (OpenSpec.upto modsNumsSpec)) modsNumsUptoCard

/-- THE SECOND FORM's CARD OF 'clavierlaw10.ModsFold'. -/
def modsFoldUptoCard : Claim7 := { stood := { row := modsFoldUptoRow, standIns := [], harness := (true, "232536f22024e2a4eaea0942e0c6174b5a528d32df1c3e31a501f50f6089edd9"), looks := false }, kinds := [], alts := [], laidByText := true, laidKinds := [.data, .widerDeep], laidTests := true, laidLooks := .later }
def ModsFoldUptoCardSaid : Prop := Claim7.holds Tryd.pinned (.plain (OpenSpec.upto modsFoldSpec)) modsFoldUptoCard

/-- THE SECOND FORM's CARD OF 'clavierlaw10.ModsBack'. -/
def modsBackUptoCard : Claim7 := { stood := { row := modsBackUptoRow, standIns := [], harness := (true, "232536f22024e2a4eaea0942e0c6174b5a528d32df1c3e31a501f50f6089edd9"), looks := false }, kinds := [], alts := [], laidByText := true, laidKinds := [.data, .widerDeep], laidTests := true, laidLooks := .later }
def ModsBackUptoCardSaid : Prop := Claim7.holds Tryd.pinned (.plain (OpenSpec.upto modsBackSpec)) modsBackUptoCard

/-- THE SECOND FORM's CARD OF 'clavierlaw10.ModsCase'. -/
def modsCaseUptoCard : Claim7 := { stood := { row := modsCaseUptoRow, standIns := [], harness := (true, "232536f22024e2a4eaea0942e0c6174b5a528d32df1c3e31a501f50f6089edd9"), looks := false }, kinds := [], alts := [], laidByText := true, laidKinds := [.data, .widerDeep], laidTests := true, laidLooks := .later }
def ModsCaseUptoCardSaid : Prop := Claim7.holds Tryd.pinned (.plain (OpenSpec.upto modsCaseSpec)) modsCaseUptoCard

/-- THE SECOND FORM's CARD OF 'clavierlaw10.ModsLess'. -/
def modsLessUptoCard : Claim7 := { stood := { row := modsLessUptoRow, standIns := [], harness := (true, "232536f22024e2a4eaea0942e0c6174b5a528d32df1c3e31a501f50f6089edd9"), looks := false }, kinds := [], alts := [], laidByText := true, laidKinds := [.data, .widerDeep], laidTests := true, laidLooks := .later }
def ModsLessUptoCardSaid : Prop := Claim7.holds Tryd.pinned (.plain (OpenSpec.upto modsLessSpec)) modsLessUptoCard
end Rows
end Go.Proofs.YtdhpbihooeckoaaDoor

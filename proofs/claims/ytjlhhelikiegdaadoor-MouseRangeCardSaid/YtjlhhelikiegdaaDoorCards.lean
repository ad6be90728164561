/-
  DERIVED. GIVEN WITH THE SEED: THE CARDS: each row of YtjlhhelikiegdaaDoorRows.lean that lists a variable, with what it lists TIED to the program's text (the seventh form; the later family's looks); each row that meets fmt, with fmt's text TOLD by the authors' own Lean function (tested against real Go, not proved from fmt's source: count such statements apart). THE CARD IS WHAT COUNTS. Prove the row's statement (the work); the ties are given (YtjlhhelikiegdaaDoorTie.lean); close each card by the builder's one call (the guide's Derived/Test/ToyasCard.lean, 'card_holds'). Laid BY PROGRAM, IN A SANDBOX (cutbox-door.mjs). By AI agents, Wed Nov 11 2026. No macro, syntax, notation, axiom, sorry.
-/
import Derived.Test.YtjlhhelikiegdaaDoorRows
import GoSem.ClaimSeven
namespace Go.Proofs.YtjlhhelikiegdaaDoor
namespace Rows

/-- THE TIED CARD OF 'clavierlaw16.MouseBack'. -/
def mouseBackCard : Claim7 := { stood := { row := mouseBackRow, standIns := [], harness := (true, "08ff602ed1de3d0491cabf51674a22242b7f392963d8358a004cccf7904f70de"), looks := false }, kinds := [], alts := [], laidByText := true, laidKinds := [.data, .data, .data, .data], laidTests := true, laidLooks := .later }
def MouseBackCardSaid : Prop := Claim7.holds Tryd.pinned (.plain (OpenSpec.ofChange mouseBackSpec)) mouseBackCard

/-- THE TIED CARD OF 'clavierlaw16.MouseRange'. -/
def mouseRangeCard : Claim7 := { stood := { row := mouseRangeRow, standIns := [], harness := (true, "08ff602ed1de3d0491cabf51674a22242b7f392963d8358a004cccf7904f70de"), looks := false }, kinds := [], alts := [], laidByText := true, laidKinds := [.data, .data, .data, .data], laidTests := true, laidLooks := .later }
def MouseRangeCardSaid : Prop := Claim7.holds Tryd.pinned (.plain (OpenSpec.ofChange mouseRangeSpec)) mouseRangeCard

/-- THE TIED CARD OF 'clavierlaw16.MouseLost'. -/
def mouseLostCard : Claim7 := { stood := { row := mouseLostRow, standIns := [], harness := (true, "08ff602ed1de3d0491cabf51674a22242b7f392963d8358a004cccf7904f70de"), looks := false }, kinds := [], alts := [], laidByText := true, laidKinds := [.data, .data, .data, .data], laidTests := true, laidLooks := .later }
def MouseLostCardSaid : Prop := Claim7.holds Tryd.pinned (.plain (OpenSpec.ofChange mouseLostSpec)) mouseLostCard

/-- THE TIED CARD OF 'clavierlaw16.MouseOld'. -/
def mouseOldCard : Claim7 := { stood := { row := mouseOldRow, standIns := [], harness := (true, "08ff602ed1de3d0491cabf51674a22242b7f392963d8358a004cccf7904f70de"), looks := false }, kinds := [], alts := [], laidByText := true, laidKinds := [.data, .data, .data, .data], laidTests := true, laidLooks := .later }
def MouseOldCardSaid : Prop := Claim7.holds Tryd.pinned (.plain (OpenSpec.ofChange mouseOldSpec)) mouseOldCard

/-- THE SECOND FORM's CARD OF 'clavierlaw16.MouseBack'. -/
def mouseBackUptoCard : Claim7 := { stood := { row := mouseBackUptoRow, standIns := [], harness := (true, "08ff602ed1de3d0491cabf51674a22242b7f392963d8358a004cccf7904f70de"), looks := false }, kinds := [], alts := [], laidByText := true, laidKinds := [.data, .data, .data, .data], laidTests := true, laidLooks := .later }
def MouseBackUptoCardSaid : Prop := Claim7.holds Tryd.pinned (.plain (OpenSpec.upto mouseBackSpec)) mouseBackUptoCard

/-- THE SECOND FORM's CARD OF 'clavierlaw16.MouseRange'. -/
def mouseRangeUptoCard : Claim7 := { stood := { row := mouseRangeUptoRow, standIns := [], harness := (true, "08ff602ed1de3d0491cabf51674a22242b7f392963d8358a004cccf7904f70de"), looks := false }, kinds := [], alts := [], laidByText := true, laidKinds := [.data, .data, .data, .data], laidTests := true, laidLooks := .later }
def MouseRangeUptoCardSaid : Prop := Claim7.holds Tryd.pinned (.plain (OpenSpec.upto mouseRangeSpec)) mouseRangeUptoCard

/-- THE SECOND FORM's CARD OF 'clavierlaw16.MouseLost'. -/
def mouseLostUptoCard : Claim7 := { stood := { row := mouseLostUptoRow, standIns := [], harness := (true, "08ff602ed1de3d0491cabf51674a22242b7f392963d8358a004cccf7904f70de"), looks := false }, kinds := [], alts := [], laidByText := true, laidKinds := [.data, .data, .data, .data], laidTests := true, laidLooks := .later }
def MouseLostUptoCardSaid : Prop := Claim7.holds Tryd.pinned (.plain (OpenSpec.upto mouseLostSpec)) mouseLostUptoCard

/-- THE SECOND FORM's CARD OF 'clavierlaw16.MouseOld'. -/
def mouseOldUptoCard : Claim7 := { stood := { row := mouseOldUptoRow, standIns := [], harness := (true, "08ff602ed1de3d0491cabf51674a22242b7f392963d8358a004cccf7904f70de"), looks := false }, kinds := [], alts := [], laidByText := true, laidKinds := [.data, .data, .data, .data], laidTests := true, laidLooks := .later }
def MouseOldUptoCardSaid : Prop := Claim7.holds Tryd.pinned (.plain (OpenSpec.upto mouseOldSpec)) mouseOldUptoCard
end Rows
end Go.Proofs.YtjlhhelikiegdaaDoor

/-
  NARROWER THAN 'FOR EVERY INPUT', by the rows' own cells (each row's printed sentence says how): ModsMay: laid · ModsNums: laid · ModsFold: laid · ModsBack: laid · ModsCase: laid · ModsLess: laid.
  DERIVED. THE GIVEN ROWS OF THIS SEAT. 6 by the template 'for every input the law returns true; each argument reads behind the call as it read before'; 0 by the template 'total and deterministic' (their statements: YtdhpbihooeckoaaDoorTotals.lean).
  GIVEN WITH THE SEED: the statements are not yours to turn. If you find one false, say at which input.
  Laid BY PROGRAM, IN A SANDBOX (cutbox-rows.mjs): the forced cells as the released guide's own fill.sh prints them over the translation fdfd2072f30bda73… (all of the seat's roots in one cut). By AI agents, Wed Nov 11 2026. No macro, syntax, notation, axiom, sorry.
-/
import Derived.Test.YtdhpbihooeckoaaDoorChecked
import GoSem.Claim
import GoSem.ClaimJoined
import GoSem.ClaimMapViews
import Derived.JoinedTies
import Derived.KernelRfl
namespace Go.Proofs.YtdhpbihooeckoaaDoor
/- THE CELL 'sum', in the pinned program and in every row, IS THE sha256 OF THE DUMP (.gsa) THAT YtdhpbihooeckoaaDoorProg.lean LOADS. Nothing in Lean hashes anything: it is a label: what it is worth is what the hold of that sum in a sandbox is worth. -/
noncomputable def Tryd.pinned : Pinned := { name := "ytdhpbihooeckoaadoor", sum := "fdfd2072f30bda731eb7f27d8ed00aa8c5d616f25949c71e63a96bc6ce858796", checked := Tryd.checked }
namespace Rows
def none {H : Type} : Left H := { results := [], args := [] }

/- WHAT THE LISTED PACKAGE-LEVEL VARIABLES READ AS WHEN THE CALL BEGINS. Each datum BY PROGRAM (the guide's laid-datum.mjs) off the statement by which the dump's own 'gosem.cut.vars' lays the variable. In a bare row this is a premise. The card (YtdhpbihooeckoaaDoorCards.lean) ties it to the program's text. -/
def laid_clavier_utf_sizes {H : Type} : DataW H := .agg [.agg [.lit (.int .i64 1), .lit (.int .i64 0), .lit (.int .i64 0)], .agg [.lit (.int .i64 2), .lit (.int .i64 128), .lit (.int .i64 192)], .agg [.lit (.int .i64 3), .lit (.int .i64 2048), .lit (.int .i64 224)], .agg [.lit (.int .i64 4), .lit (.int .i64 65536), .lit (.int .i64 240)]]
def laid_clavier_keys_rows {H : Type} : DataW H := .slice [.agg [.lit (.int .i64 9), .lit (.int .i64 9), .lit (.int .i64 2), .lit (.string []), .nil, .lit (.string []), .lit (.bool false)], .agg [.lit (.int .i64 13), .lit (.int .i64 13), .lit (.int .i64 2), .lit (.string []), .nil, .lit (.string []), .lit (.bool false)], .agg [.lit (.int .i64 27), .lit (.int .i64 27), .lit (.int .i64 2), .lit (.string []), .nil, .lit (.string []), .lit (.bool false)], .agg [.lit (.int .i64 127), .lit (.int .i64 127), .lit (.int .i64 2), .lit (.string []), .nil, .lit (.string []), .lit (.bool false)], .agg [.lit (.int .i64 57350), .lit (.int .i64 57353), .lit (.int .i64 3), .lit (.string [68, 67, 65, 66]), .nil, .lit (.string []), .lit (.bool false)], .agg [.lit (.int .i64 57356), .lit (.int .i64 57357), .lit (.int .i64 3), .lit (.string [72, 70]), .nil, .lit (.string []), .lit (.bool false)], .agg [.lit (.int .i64 57364), .lit (.int .i64 57367), .lit (.int .i64 3), .lit (.string [80, 81, 82, 83]), .nil, .lit (.string []), .lit (.bool false)], .agg [.lit (.int .i64 57348), .lit (.int .i64 57349), .lit (.int .i64 4), .lit (.string []), .slice [.lit (.int .i64 2), .lit (.int .i64 3)] [], .lit (.string []), .lit (.bool false)], .agg [.lit (.int .i64 57354), .lit (.int .i64 57355), .lit (.int .i64 4), .lit (.string []), .slice [.lit (.int .i64 5), .lit (.int .i64 6)] [], .lit (.string []), .lit (.bool false)], .agg [.lit (.int .i64 57368), .lit (.int .i64 57375), .lit (.int .i64 4), .lit (.string []), .slice [.lit (.int .i64 15), .lit (.int .i64 17), .lit (.int .i64 18), .lit (.int .i64 19), .lit (.int .i64 20), .lit (.int .i64 21), .lit (.int .i64 23), .lit (.int .i64 24)] [], .lit (.string []), .lit (.bool false)], .agg [.lit (.int .i64 57363), .lit (.int .i64 57363), .lit (.int .i64 4), .lit (.string []), .slice [.lit (.int .i64 29)] [], .lit (.string []), .lit (.bool false)], .agg [.lit (.int .i64 57399), .lit (.int .i64 57408), .lit (.int .i64 5), .lit (.string [112, 113, 114, 115, 116, 117, 118, 119, 120, 121]), .nil, .lit (.string [48, 49, 50, 51, 52, 53, 54, 55, 56, 57]), .lit (.bool true)], .agg [.lit (.int .i64 57409), .lit (.int .i64 57416), .lit (.int .i64 5), .lit (.string [110, 111, 106, 109, 107, 77, 88, 108]), .nil, .lit (.string [46, 47, 42, 45, 43, 13, 61, 44]), .lit (.bool true)], .agg [.lit (.int .i64 57417), .lit (.int .i64 57420), .lit (.int .i64 3), .lit (.string [68, 67, 65, 66]), .nil, .lit (.string []), .lit (.bool true)], .agg [.lit (.int .i64 57423), .lit (.int .i64 57424), .lit (.int .i64 3), .lit (.string [72, 70]), .nil, .lit (.string []), .lit (.bool true)], .agg [.lit (.int .i64 57427), .lit (.int .i64 57427), .lit (.int .i64 3), .lit (.string [69]), .nil, .lit (.string []), .lit (.bool true)], .agg [.lit (.int .i64 57421), .lit (.int .i64 57422), .lit (.int .i64 4), .lit (.string []), .slice [.lit (.int .i64 5), .lit (.int .i64 6)] [], .lit (.string []), .lit (.bool true)], .agg [.lit (.int .i64 57425), .lit (.int .i64 57426), .lit (.int .i64 4), .lit (.string []), .slice [.lit (.int .i64 2), .lit (.int .i64 3)] [], .lit (.string []), .lit (.bool true)], .agg [.lit (.int .i64 57358), .lit (.int .i64 57362), .lit (.int .i64 6), .lit (.string []), .nil, .lit (.string []), .lit (.bool false)], .agg [.lit (.int .i64 57376), .lit (.int .i64 57398), .lit (.int .i64 6), .lit (.string []), .nil, .lit (.string []), .lit (.bool false)], .agg [.lit (.int .i64 57428), .lit (.int .i64 57440), .lit (.int .i64 6), .lit (.string []), .nil, .lit (.string []), .lit (.bool false)], .agg [.lit (.int .i64 57441), .lit (.int .i64 57454), .lit (.int .i64 7), .lit (.string []), .nil, .lit (.string []), .lit (.bool false)]] []

/-- 'clavierlaw10.ModsMay': WHATEVER THE INPUT: true; the input reads as it did. -/
def modsMaySpec : ChangeSpec := { name := "modsMay", fn := fun _ => fun
  | [d] => { results := [.lit (.bool true)], args := [d] }
  | _ => none }
def modsMayRow : OpenClaim := { program := "ytdhpbihooeckoaadoor", sum := "fdfd2072f30bda731eb7f27d8ed00aa8c5d616f25949c71e63a96bc6ce858796", func := "clavier/clavierlaw10.ModsMay", spec := "modsMay", unfollowed := true, recurses := true, named := ["clavier/keys.rows", "clavier/utf.sizes"], apart := false, laid := [("clavier/utf.sizes", laid_clavier_utf_sizes), ("clavier/keys.rows", laid_clavier_keys_rows)] }
def ModsMaySaid : Prop := modsMayRow.holds Tryd.pinned (OpenSpec.ofChange modsMaySpec)

/-- ITS FALSE NEIGHBOUR: 'it returns false'. Refute it at one input. -/
def modsMayWrong : ChangeSpec := { name := "modsMay", fn := fun _ => fun
  | [d] => { results := [.lit (.bool false)], args := [d] }
  | _ => none }
def ModsMayWrongFalsely : Prop := modsMayRow.holds Tryd.pinned (OpenSpec.ofChange modsMayWrong)

/-- 'clavierlaw10.ModsNums': WHATEVER THE INPUT: true; the input reads as it did. -/
def modsNumsSpec : ChangeSpec := { name := "modsNums", fn := fun _ => fun
  | [d] => { results := [.lit (.bool true)], args := [d] }
  | _ => none }
def modsNumsRow : OpenClaim := { program := "ytdhpbihooeckoaadoor", sum := "fdfd2072f30bda731eb7f27d8ed00aa8c5d616f25949c71e63a96bc6ce858796", func := "clavier/clavierlaw10.ModsNums", spec := "modsNums", unfollowed := true, recurses := true, named := ["clavier/keys.rows", "clavier/utf.sizes"], apart := false, laid := [("clavier/utf.sizes", laid_clavier_utf_sizes), ("clavier/keys.rows", laid_clavier_keys_rows)] }
def ModsNumsSaid : Prop := modsNumsRow.holds Tryd.pinned (OpenSpec.ofChange modsNumsSpec)

/-- ITS FALSE NEIGHBOUR: 'it returns false'. Refute it at one input. -/
def modsNumsWrong : ChangeSpec := { name := "modsNums", fn := fun _ => fun
  | [d] => { results := [.lit (.bool false)], args := [d] }
  | _ => none }
def ModsNumsWrongFalsely : Prop := modsNumsRow.holds Tryd.pinned (OpenSpec.ofChange modsNumsWrong)

/-- 'clavierlaw10.ModsFold': WHATEVER THE INPUT: true; the input reads as it did. -/
def modsFoldSpec : ChangeSpec := { name := "modsFold", fn := fun _ => fun
  | [d] => { results := [.lit (.bool true)], args := [d] }
  | _ => none }
def modsFoldRow : OpenClaim := { program := "ytdhpbihooeckoaadoor", sum := "fdfd2072f30bda731eb7f27d8ed00aa8c5d616f25949c71e63a96bc6ce858796", func := "clavier/clavierlaw10.ModsFold", spec := "modsFold", unfollowed := true, recurses := true, named := ["clavier/keys.rows", "clavier/utf.sizes"], apart := false, laid := [("clavier/utf.sizes", laid_clavier_utf_sizes), ("clavier/keys.rows", laid_clavier_keys_rows)] }
def ModsFoldSaid : Prop := modsFoldRow.holds Tryd.pinned (OpenSpec.ofChange modsFoldSpec)

/-- ITS FALSE NEIGHBOUR: 'it returns false'. Refute it at one input. -/
def modsFoldWrong : ChangeSpec := { name := "modsFold", fn := fun _ => fun
  | [d] => { results := [.lit (.bool false)], args := [d] }
  | _ => none }
def ModsFoldWrongFalsely : Prop := modsFoldRow.holds Tryd.pinned (OpenSpec.ofChange modsFoldWrong)

/-- 'clavierlaw10.ModsBack': WHATEVER THE INPUT: true; the input reads as it did. -/
def modsBackSpec : ChangeSpec := { name := "modsBack", fn := fun _ => fun
  | [d1, d2] => { results := [.lit (.bool true)], args := [d1, d2] }
  | _ => none }
def modsBackRow : OpenClaim := { program := "ytdhpbihooeckoaadoor", sum := "fdfd2072f30bda731eb7f27d8ed00aa8c5d616f25949c71e63a96bc6ce858796", func := "clavier/clavierlaw10.ModsBack", spec := "modsBack", unfollowed := true, recurses := true, named := ["clavier/keys.rows", "clavier/utf.sizes"], apart := false, laid := [("clavier/utf.sizes", laid_clavier_utf_sizes), ("clavier/keys.rows", laid_clavier_keys_rows)] }
def ModsBackSaid : Prop := modsBackRow.holds Tryd.pinned (OpenSpec.ofChange modsBackSpec)

/-- ITS FALSE NEIGHBOUR: 'it returns false'. Refute it at one input. -/
def modsBackWrong : ChangeSpec := { name := "modsBack", fn := fun _ => fun
  | [d1, d2] => { results := [.lit (.bool false)], args := [d1, d2] }
  | _ => none }
def ModsBackWrongFalsely : Prop := modsBackRow.holds Tryd.pinned (OpenSpec.ofChange modsBackWrong)

/-- 'clavierlaw10.ModsCase': WHATEVER THE INPUT: true; the input reads as it did. -/
def modsCaseSpec : ChangeSpec := { name := "modsCase", fn := fun _ => fun
  | [d1, d2] => { results := [.lit (.bool true)], args := [d1, d2] }
  | _ => none }
def modsCaseRow : OpenClaim := { program := "ytdhpbihooeckoaadoor", sum := "fdfd2072f30bda731eb7f27d8ed00aa8c5d616f25949c71e63a96bc6ce858796", func := "clavier/clavierlaw10.ModsCase", spec := "modsCase", unfollowed := true, recurses := true, named := ["clavier/keys.rows", "clavier/utf.sizes"], apart := false, laid := [("clavier/utf.sizes", laid_clavier_utf_sizes), ("clavier/keys.rows", laid_clavier_keys_rows)] }
def ModsCaseSaid : Prop := modsCaseRow.holds Tryd.pinned (OpenSpec.ofChange modsCaseSpec)

/-- ITS FALSE NEIGHBOUR: 'it returns false'. Refute it at one input. -/
def modsCaseWrong : ChangeSpec := { name := "modsCase", fn := fun _ => fun
  | [d1, d2] => { results := [.lit (.bool false)], args := [d1, d2] }
  | _ => none }
def ModsCaseWrongFalsely : Prop := modsCaseRow.holds Tryd.pinned (OpenSpec.ofChange modsCaseWrong)

/-- 'clavierlaw10.ModsLess': WHATEVER THE INPUT: true; the input reads as it did. -/
def modsLessSpec : ChangeSpec := { name := "modsLess", fn := fun _ => fun
  | [d1, d2] => { results := [.lit (.bool true)], args := [d1, d2] }
  | _ => none }
def modsLessRow : OpenClaim := { program := "ytdhpbihooeckoaadoor", sum := "fdfd2072f30bda731eb7f27d8ed00aa8c5d616f25949c71e63a96bc6ce858796", func := "clavier/clavierlaw10.ModsLess", spec := "modsLess", unfollowed := true, recurses := true, named := ["clavier/keys.rows", "clavier/utf.sizes"], apart := false, laid := [("clavier/utf.sizes", laid_clavier_utf_sizes), ("clavier/keys.rows", laid_clavier_keys_rows)] }
def ModsLessSaid : Prop := modsLessRow.holds Tryd.pinned (OpenSpec.ofChange modsLessSpec)

/-- ITS FALSE NEIGHBOUR: 'it returns false'. Refute it at one input. -/
def modsLessWrong : ChangeSpec := { name := "modsLess", fn := fun _ => fun
  | [d1, d2] => { results := [.lit (.bool false)], args := [d1, d2] }
  | _ => none }
def ModsLessWrongFalsely : Prop := modsLessRow.holds Tryd.pinned (OpenSpec.ofChange modsLessWrong)

/- THE SECOND FORM. 'bulk': how many values and letters a reading holds, each counted each time it is reached (what is shared counts as often as it is met; a slice's spare places count too). A statement '..UptoSaid' is the law's where the arguments, and the package variables that the reading takes, are together of bulk at most 1048576: NARROWER than '..Said'. Prove '..Said' where nothing that the law and all that it calls make is longer than what came in: it says more and counts as full. Else prove '..UptoSaid'. A law counts once. -/
mutual
def uptoBulk {H : Type} : DataW H → Nat
  | .lit (.string bytes) => bytes.length + 1
  | .lit _ => 1
  | .nil => 1
  | .ptr d => uptoBulk d + 1
  | .slice elems spare => uptoBulkAll elems + uptoBulkAll spare + 1
  | .agg parts => uptoBulkAll parts + 1
  | .iface _ d => uptoBulk d + 1
  | .map entries => uptoBulkEntries entries + 1
  | .held _ => 1
def uptoBulkAll {H : Type} : List (DataW H) → Nat
  | [] => 0
  | d :: r => uptoBulk d + uptoBulkAll r
def uptoBulkEntries {H : Type} : List (Lit × DataW H) → Nat
  | [] => 0
  | x :: r => uptoBulkEntry x + uptoBulkEntries r
def uptoBulkEntry {H : Type} : Lit × DataW H → Nat
  | (.string bytes, d) => bytes.length + uptoBulk d + 1
  | (_, d) => uptoBulk d + 1
 end
def uptoSmall : (H : Type) → List (DataW H) → Bool := fun _ ds => decide (uptoBulkAll ds ≤ 1048576)
def OpenSpec.upto (s : _root_.Go.ChangeSpec) : _root_.Go.OpenSpec := { _root_.Go.OpenSpec.ofChange s with cond := some uptoSmall }

/-- 'clavierlaw10.ModsMay', WHERE WHAT IT READS IS OF BULK AT MOST 1048576: true; the input reads as it did. -/
def modsMayUptoRow : OpenClaim := { program := "ytdhpbihooeckoaadoor", sum := "fdfd2072f30bda731eb7f27d8ed00aa8c5d616f25949c71e63a96bc6ce858796", func := "clavier/clavierlaw10.ModsMay", spec := "modsMay", unfollowed := true, recurses := true, named := ["clavier/keys.rows", "clavier/utf.sizes"], apart := false, laid := [("clavier/utf.sizes", laid_clavier_utf_sizes), ("clavier/keys.rows", laid_clavier_keys_rows)], narrowed := true }
def ModsMayUptoSaid : Prop := modsMayUptoRow.holds Tryd.pinned (OpenSpec.upto modsMaySpec)

/-- 'clavierlaw10.ModsNums', WHERE WHAT IT READS IS OF BULK AT MOST 1048576: true; the input reads as it did. -/
def modsNumsUptoRow : OpenClaim := { program := "ytdhpbihooeckoaadoor", sum := "fdfd2072f30bda731eb7f27d8ed00aa8c5d616f25949c71e63a96bc6ce858796", func := "clavier/clavierlaw10.ModsNums", spec := "modsNums", unfollowed := true, recurses := true, named := ["clavier/keys.rows", "clavier/utf.sizes"], apart := false, laid := [("clavier/utf.sizes", laid_clavier_utf_sizes), ("clavier/keys.rows", laid_clavier_keys_rows)], narrowed := true }
def ModsNumsUptoSaid : Prop := modsNumsUptoRow.holds Tryd.pinned (OpenSpec.upto modsNumsSpec)

/-- 'clavierlaw10.ModsFold', WHERE WHAT IT READS IS OF BULK AT MOST 1048576: true; the input reads as it did. -/
def modsFoldUptoRow : OpenClaim := { program := "ytdhpbihooeckoaadoor", sum := "fdfd2072f30bda731eb7f27d8ed00aa8c5d616f25949c71e63a96bc6ce858796", func := "clavier/clavierlaw10.ModsFold", spec := "modsFold", unfollowed := true, recurses := true, named := ["clavier/keys.rows", "clavier/utf.sizes"], apart := false, laid := [("clavier/utf.sizes", laid_clavier_utf_sizes), ("clavier/keys.rows", laid_clavier_keys_rows)], narrowed := true }
def ModsFoldUptoSaid : Prop := modsFoldUptoRow.holds Tryd.pinned (OpenSpec.upto modsFoldSpec)

/-- 'clavierlaw10.ModsBack', WHERE WHAT IT READS IS OF BULK AT MOST 1048576: true; the input reads as it did. -/
def modsBackUptoRow : OpenClaim := { program := "ytdhpbihooeckoaadoor", sum := "fdfd2072f30bda731eb7f27d8ed00aa8c5d616f25949c71e63a96bc6ce858796", func := "clavier/clavierlaw10.ModsBack", spec := "modsBack", unfollowed := true, recurses := true, named := ["clavier/keys.rows", "clavier/utf.sizes"], apart := false, laid := [("clavier/utf.sizes", laid_clavier_utf_sizes), ("clavier/keys.rows", laid_clavier_keys_rows)], narrowed := true }
def ModsBackUptoSaid : Prop := modsBackUptoRow.holds Tryd.pinned (OpenSpec.upto modsBackSpec)

/-- 'clavierlaw10.ModsCase', WHERE WHAT IT READS IS OF BULK AT MOST 1048576: true; the input reads as it did. -/
def modsCaseUptoRow : OpenClaim := { program := "ytdhpbihooeckoaadoor", sum := "fdfd2072f30bda731eb7f27d8ed00aa8c5d616f25949c71e63a96bc6ce858796", func := "clavier/clavierlaw10.ModsCase", spec := "modsCase", unfollowed := true, recurses := true, named := ["clavier/keys.rows", "clavier/utf.sizes"], apart := false, laid := [("clavier/utf.sizes", laid_clavier_utf_sizes), ("clavier/keys.rows", laid_clavier_keys_rows)], narrowed := true }
def ModsCaseUptoSaid : Prop := modsCaseUptoRow.holds Tryd.pinned (OpenSpec.upto modsCaseSpec)

/-- 'clavierlaw10.ModsLess', WHERE WHAT IT READS IS OF BULK AT MOST 1048576: true; the input reads as it did. -/
def modsLessUptoRow : OpenClaim := { program := "ytdhpbihooeckoaadoor", sum := "fdfd2072f30bda731eb7f27d8ed00aa8c5d616f25949c71e63a96bc6ce858796", func := "clavier/clavierlaw10.ModsLess", spec := "modsLess", unfollowed := true, recurses := true, named := ["clavier/keys.rows", "clavier/utf.sizes"], apart := false, laid := [("clavier/utf.sizes", laid_clavier_utf_sizes), ("clavier/keys.rows", laid_clavier_keys_rows)], narrowed := true }
def ModsLessUptoSaid : Prop := modsLessUptoRow.holds Tryd.pinned (OpenSpec.upto modsLessSpec)

end Rows
end Go.Proofs.YtdhpbihooeckoaaDoor

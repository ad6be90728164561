/-
  NARROWER THAN 'FOR EVERY INPUT', by the rows' own cells (each row's printed sentence says how): KeysLook: laid · KeysRow: laid · KeysFind: laid · KeysBack: laid · KeysKinds: laid · KeysPad: laid.
  DERIVED. THE GIVEN ROWS OF THIS SEAT. 6 by the template 'for every input the law returns true; each argument reads behind the call as it read before'; 0 by the template 'total and deterministic' (their statements: YtkicenpcklknnaaDoorTotals.lean).
  GIVEN WITH THE SEED: the statements are not yours to turn. If you find one false, say at which input.
  Laid BY PROGRAM, IN A SANDBOX (cutbox-rows.mjs): the forced cells as the released guide's own fill.sh prints them over the translation f1b0a4840c5bed54… (all of the seat's roots in one cut). By AI agents, Wed Nov 11 2026. No macro, syntax, notation, axiom, sorry.
-/
import Derived.Test.YtkicenpcklknnaaDoorChecked
import GoSem.Claim
import GoSem.ClaimJoined
import GoSem.ClaimMapViews
import Derived.JoinedTies
import Derived.KernelRfl
namespace Go.Proofs.YtkicenpcklknnaaDoor
/- THE CELL 'sum', in the pinned program and in every row, IS THE sha256 OF THE DUMP (.gsa) THAT YtkicenpcklknnaaDoorProg.lean LOADS. Nothing in Lean hashes anything: it is a label: what it is worth is what the hold of that sum in a sandbox is worth. -/
noncomputable def Tryd.pinned : Pinned := { name := "ytkicenpcklknnaadoor", sum := "f1b0a4840c5bed54032e47d327314d7ab9f9db41e25bee23fea60ea0562f8a11", checked := Tryd.checked }
namespace Rows
def none {H : Type} : Left H := { results := [], args := [] }

/- WHAT THE LISTED PACKAGE-LEVEL VARIABLES READ AS WHEN THE CALL BEGINS. Each datum BY PROGRAM (the guide's laid-datum.mjs) off the statement by which the dump's own 'gosem.cut.vars' lays the variable. In a bare row this is a premise. The card (YtkicenpcklknnaaDoorCards.lean) ties it to the program's text. -/
def laid_clavier_utf_sizes {H : Type} : DataW H := .agg [.agg [.lit (.int .i64 1), .lit (.int .i64 0), .lit (.int .i64 0)], .agg [.lit (.int .i64 2), .lit (.int .i64 128), .lit (.int .i64 192)], .agg [.lit (.int .i64 3), .lit (.int .i64 2048), .lit (.int .i64 224)], .agg [.lit (.int .i64 4), .lit (.int .i64 65536), .lit (.int .i64 240)]]
def laid_clavier_keys_rows {H : Type} : DataW H := .slice [.agg [.lit (.int .i64 9), .lit (.int .i64 9), .lit (.int .i64 2), .lit (.string []), .nil, .lit (.string []), .lit (.bool false)], .agg [.lit (.int .i64 13), .lit (.int .i64 13), .lit (.int .i64 2), .lit (.string []), .nil, .lit (.string []), .lit (.bool false)], .agg [.lit (.int .i64 27), .lit (.int .i64 27), .lit (.int .i64 2), .lit (.string []), .nil, .lit (.string []), .lit (.bool false)], .agg [.lit (.int .i64 127), .lit (.int .i64 127), .lit (.int .i64 2), .lit (.string []), .nil, .lit (.string []), .lit (.bool false)], .agg [.lit (.int .i64 57350), .lit (.int .i64 57353), .lit (.int .i64 3), .lit (.string [68, 67, 65, 66]), .nil, .lit (.string []), .lit (.bool false)], .agg [.lit (.int .i64 57356), .lit (.int .i64 57357), .lit (.int .i64 3), .lit (.string [72, 70]), .nil, .lit (.string []), .lit (.bool false)], .agg [.lit (.int .i64 57364), .lit (.int .i64 57367), .lit (.int .i64 3), .lit (.string [80, 81, 82, 83]), .nil, .lit (.string []), .lit (.bool false)], .agg [.lit (.int .i64 57348), .lit (.int .i64 57349), .lit (.int .i64 4), .lit (.string []), .slice [.lit (.int .i64 2), .lit (.int .i64 3)] [], .lit (.string []), .lit (.bool false)], .agg [.lit (.int .i64 57354), .lit (.int .i64 57355), .lit (.int .i64 4), .lit (.string []), .slice [.lit (.int .i64 5), .lit (.int .i64 6)] [], .lit (.string []), .lit (.bool false)], .agg [.lit (.int .i64 57368), .lit (.int .i64 57375), .lit (.int .i64 4), .lit (.string []), .slice [.lit (.int .i64 15), .lit (.int .i64 17), .lit (.int .i64 18), .lit (.int .i64 19), .lit (.int .i64 20), .lit (.int .i64 21), .lit (.int .i64 23), .lit (.int .i64 24)] [], .lit (.string []), .lit (.bool false)], .agg [.lit (.int .i64 57363), .lit (.int .i64 57363), .lit (.int .i64 4), .lit (.string []), .slice [.lit (.int .i64 29)] [], .lit (.string []), .lit (.bool false)], .agg [.lit (.int .i64 57399), .lit (.int .i64 57408), .lit (.int .i64 5), .lit (.string [112, 113, 114, 115, 116, 117, 118, 119, 120, 121]), .nil, .lit (.string [48, 49, 50, 51, 52, 53, 54, 55, 56, 57]), .lit (.bool true)], .agg [.lit (.int .i64 57409), .lit (.int .i64 57416), .lit (.int .i64 5), .lit (.string [110, 111, 106, 109, 107, 77, 88, 108]), .nil, .lit (.string [46, 47, 42, 45, 43, 13, 61, 44]), .lit (.bool true)], .agg [.lit (.int .i64 57417), .lit (.int .i64 57420), .lit (.int .i64 3), .lit (.string [68, 67, 65, 66]), .nil, .lit (.string []), .lit (.bool true)], .agg [.lit (.int .i64 57423), .lit (.int .i64 57424), .lit (.int .i64 3), .lit (.string [72, 70]), .nil, .lit (.string []), .lit (.bool true)], .agg [.lit (.int .i64 57427), .lit (.int .i64 57427), .lit (.int .i64 3), .lit (.string [69]), .nil, .lit (.string []), .lit (.bool true)], .agg [.lit (.int .i64 57421), .lit (.int .i64 57422), .lit (.int .i64 4), .lit (.string []), .slice [.lit (.int .i64 5), .lit (.int .i64 6)] [], .lit (.string []), .lit (.bool true)], .agg [.lit (.int .i64 57425), .lit (.int .i64 57426), .lit (.int .i64 4), .lit (.string []), .slice [.lit (.int .i64 2), .lit (.int .i64 3)] [], .lit (.string []), .lit (.bool true)], .agg [.lit (.int .i64 57358), .lit (.int .i64 57362), .lit (.int .i64 6), .lit (.string []), .nil, .lit (.string []), .lit (.bool false)], .agg [.lit (.int .i64 57376), .lit (.int .i64 57398), .lit (.int .i64 6), .lit (.string []), .nil, .lit (.string []), .lit (.bool false)], .agg [.lit (.int .i64 57428), .lit (.int .i64 57440), .lit (.int .i64 6), .lit (.string []), .nil, .lit (.string []), .lit (.bool false)], .agg [.lit (.int .i64 57441), .lit (.int .i64 57454), .lit (.int .i64 7), .lit (.string []), .nil, .lit (.string []), .lit (.bool false)]] []

/-- 'clavierlaw09.KeysLook': WHATEVER THE INPUT: true; the input reads as it did. -/
def keysLookSpec : ChangeSpec := { name := "keysLook", fn := fun _ => fun
  | [d] => { results := [.lit (.bool true)], args := [d] }
  | _ => none }
def keysLookRow : OpenClaim := { program := "ytkicenpcklknnaadoor", sum := "f1b0a4840c5bed54032e47d327314d7ab9f9db41e25bee23fea60ea0562f8a11", func := "clavier/clavierlaw09.KeysLook", spec := "keysLook", unfollowed := true, recurses := true, named := ["clavier/keys.rows", "clavier/utf.sizes"], apart := false, laid := [("clavier/utf.sizes", laid_clavier_utf_sizes), ("clavier/keys.rows", laid_clavier_keys_rows)] }
def KeysLookSaid : Prop := keysLookRow.holds Tryd.pinned (OpenSpec.ofChange keysLookSpec)

/-- ITS FALSE NEIGHBOUR: 'it returns false'. Refute it at one input. -/
def keysLookWrong : ChangeSpec := { name := "keysLook", fn := fun _ => fun
  | [d] => { results := [.lit (.bool false)], args := [d] }
  | _ => none }
def KeysLookWrongFalsely : Prop := keysLookRow.holds Tryd.pinned (OpenSpec.ofChange keysLookWrong)

/-- 'clavierlaw09.KeysRow': WHATEVER THE INPUT: true; the input reads as it did. -/
def keysRowSpec : ChangeSpec := { name := "keysRow", fn := fun _ => fun
  | [d] => { results := [.lit (.bool true)], args := [d] }
  | _ => none }
def keysRowRow : OpenClaim := { program := "ytkicenpcklknnaadoor", sum := "f1b0a4840c5bed54032e47d327314d7ab9f9db41e25bee23fea60ea0562f8a11", func := "clavier/clavierlaw09.KeysRow", spec := "keysRow", unfollowed := true, recurses := true, named := ["clavier/keys.rows", "clavier/utf.sizes"], apart := false, laid := [("clavier/utf.sizes", laid_clavier_utf_sizes), ("clavier/keys.rows", laid_clavier_keys_rows)] }
def KeysRowSaid : Prop := keysRowRow.holds Tryd.pinned (OpenSpec.ofChange keysRowSpec)

/-- ITS FALSE NEIGHBOUR: 'it returns false'. Refute it at one input. -/
def keysRowWrong : ChangeSpec := { name := "keysRow", fn := fun _ => fun
  | [d] => { results := [.lit (.bool false)], args := [d] }
  | _ => none }
def KeysRowWrongFalsely : Prop := keysRowRow.holds Tryd.pinned (OpenSpec.ofChange keysRowWrong)

/-- 'clavierlaw09.KeysFind': WHATEVER THE INPUT: true; the input reads as it did. -/
def keysFindSpec : ChangeSpec := { name := "keysFind", fn := fun _ => fun
  | [d1, d2] => { results := [.lit (.bool true)], args := [d1, d2] }
  | _ => none }
def keysFindRow : OpenClaim := { program := "ytkicenpcklknnaadoor", sum := "f1b0a4840c5bed54032e47d327314d7ab9f9db41e25bee23fea60ea0562f8a11", func := "clavier/clavierlaw09.KeysFind", spec := "keysFind", unfollowed := true, recurses := true, named := ["clavier/keys.rows", "clavier/utf.sizes"], apart := false, laid := [("clavier/utf.sizes", laid_clavier_utf_sizes), ("clavier/keys.rows", laid_clavier_keys_rows)] }
def KeysFindSaid : Prop := keysFindRow.holds Tryd.pinned (OpenSpec.ofChange keysFindSpec)

/-- ITS FALSE NEIGHBOUR: 'it returns false'. Refute it at one input. -/
def keysFindWrong : ChangeSpec := { name := "keysFind", fn := fun _ => fun
  | [d1, d2] => { results := [.lit (.bool false)], args := [d1, d2] }
  | _ => none }
def KeysFindWrongFalsely : Prop := keysFindRow.holds Tryd.pinned (OpenSpec.ofChange keysFindWrong)

/-- 'clavierlaw09.KeysBack': WHATEVER THE INPUT: true; the input reads as it did. -/
def keysBackSpec : ChangeSpec := { name := "keysBack", fn := fun _ => fun
  | [d1, d2, d3] => { results := [.lit (.bool true)], args := [d1, d2, d3] }
  | _ => none }
def keysBackRow : OpenClaim := { program := "ytkicenpcklknnaadoor", sum := "f1b0a4840c5bed54032e47d327314d7ab9f9db41e25bee23fea60ea0562f8a11", func := "clavier/clavierlaw09.KeysBack", spec := "keysBack", unfollowed := true, recurses := true, named := ["clavier/keys.rows", "clavier/utf.sizes"], apart := false, laid := [("clavier/utf.sizes", laid_clavier_utf_sizes), ("clavier/keys.rows", laid_clavier_keys_rows)] }
def KeysBackSaid : Prop := keysBackRow.holds Tryd.pinned (OpenSpec.ofChange keysBackSpec)

/-- ITS FALSE NEIGHBOUR: 'it returns false'. Refute it at one input. -/
def keysBackWrong : ChangeSpec := { name := "keysBack", fn := fun _ => fun
  | [d1, d2, d3] => { results := [.lit (.bool false)], args := [d1, d2, d3] }
  | _ => none }
def KeysBackWrongFalsely : Prop := keysBackRow.holds Tryd.pinned (OpenSpec.ofChange keysBackWrong)

/-- 'clavierlaw09.KeysKinds': WHATEVER THE INPUT: true; the input reads as it did. -/
def keysKindsSpec : ChangeSpec := { name := "keysKinds", fn := fun _ => fun
  | [d] => { results := [.lit (.bool true)], args := [d] }
  | _ => none }
def keysKindsRow : OpenClaim := { program := "ytkicenpcklknnaadoor", sum := "f1b0a4840c5bed54032e47d327314d7ab9f9db41e25bee23fea60ea0562f8a11", func := "clavier/clavierlaw09.KeysKinds", spec := "keysKinds", unfollowed := true, recurses := true, named := ["clavier/keys.rows", "clavier/utf.sizes"], apart := false, laid := [("clavier/utf.sizes", laid_clavier_utf_sizes), ("clavier/keys.rows", laid_clavier_keys_rows)] }
def KeysKindsSaid : Prop := keysKindsRow.holds Tryd.pinned (OpenSpec.ofChange keysKindsSpec)

/-- ITS FALSE NEIGHBOUR: 'it returns false'. Refute it at one input. -/
def keysKindsWrong : ChangeSpec := { name := "keysKinds", fn := fun _ => fun
  | [d] => { results := [.lit (.bool false)], args := [d] }
  | _ => none }
def KeysKindsWrongFalsely : Prop := keysKindsRow.holds Tryd.pinned (OpenSpec.ofChange keysKindsWrong)

/-- 'clavierlaw09.KeysPad': WHATEVER THE INPUT: true; the input reads as it did. -/
def keysPadSpec : ChangeSpec := { name := "keysPad", fn := fun _ => fun
  | [d] => { results := [.lit (.bool true)], args := [d] }
  | _ => none }
def keysPadRow : OpenClaim := { program := "ytkicenpcklknnaadoor", sum := "f1b0a4840c5bed54032e47d327314d7ab9f9db41e25bee23fea60ea0562f8a11", func := "clavier/clavierlaw09.KeysPad", spec := "keysPad", unfollowed := true, recurses := true, named := ["clavier/keys.rows", "clavier/utf.sizes"], apart := false, laid := [("clavier/utf.sizes", laid_clavier_utf_sizes), ("clavier/keys.rows", laid_clavier_keys_rows)] }
def KeysPadSaid : Prop := keysPadRow.holds Tryd.pinned (OpenSpec.ofChange keysPadSpec)

/-- ITS FALSE NEIGHBOUR: 'it returns false'. Refute it at one input. -/
def keysPadWrong : ChangeSpec := { name := "keysPad", fn := fun _ => fun
  | [d] => { results := [.lit (.bool false)], args := [d] }
  | _ => none }
def KeysPadWrongFalsely : Prop := keysPadRow.holds Tryd.pinned (OpenSpec.ofChange keysPadWrong)

/- THE SECOND FORM. 'bulk': how many values and letters a reading holds, each counted each time it is reached (what is shared counts as often as it is met; a slice's spare places count too). A statement '..UptoSaid' is the law's where the arguments, and the package variables that the reading takes, are together of bulk at most 1048576: NARROWER than '..Said'. Prove '..Said' where nothing that the law and all that it calls make is longer than what came in: it says more and counts as full. Else prove '..UptoSaid'. A law counts once. -/
mutual
def uptoBulk {H : Type} : DataW H → Nat
  | .lit (.string bytes) => bytes.length + 1
  | .lit _ => 1
  | .nil => 1
  | .ptr d => uptoBulk d + 1
  | .slice elems spare => uptoBulkAll elems + uptoBulkAll spare + 1
  | .agg parts => uptoBulkAll parts + 1
  | .iface _ d => uptoBulk d + 1
  | .map entries => uptoBulkEntries entries + 1
  | .held _ => 1
def uptoBulkAll {H : Type} : List (DataW H) → Nat
  | [] => 0
  | d :: r => uptoBulk d + uptoBulkAll r
def uptoBulkEntries {H : Type} : List (Lit × DataW H) → Nat
  | [] => 0
  | x :: r => uptoBulkEntry x + uptoBulkEntries r
def uptoBulkEntry {H : Type} : Lit × DataW H → Nat
  | (.string bytes, d) => bytes.length + uptoBulk d + 1
  | (_, d) => uptoBulk d + 1
 end
def uptoSmall : (H : Type) → List (DataW H) → Bool := fun _ ds => decide (uptoBulkAll ds ≤ 1048576)
def OpenSpec.upto (s : _root_.Go.ChangeSpec) : _root_.Go.OpenSpec := { _root_.Go.OpenSpec.ofChange s with cond := some uptoSmall }

/-- 'clavierlaw09.KeysLook', WHERE WHAT IT READS IS OF BULK AT MOST 1048576: true; the input reads as it did. -/
def keysLookUptoRow : OpenClaim := { program := "ytkicenpcklknnaadoor", sum := "f1b0a4840c5bed54032e47d327314d7ab9f9db41e25bee23fea60ea0562f8a11", func := "clavier/clavierlaw09.KeysLook", spec := "keysLook", unfollowed := true, recurses := true, named := ["clavier/keys.rows", "clavier/utf.sizes"], apart := false, laid := [("clavier/utf.sizes", laid_clavier_utf_sizes), ("clavier/keys.rows", laid_clavier_keys_rows)], narrowed := true }
def KeysLookUptoSaid : Prop := keysLookUptoRow.holds Tryd.pinned (OpenSpec.upto keysLookSpec)

/-- 'clavierlaw09.KeysRow', WHERE WHAT IT READS IS OF BULK AT MOST 1048576: true; the input reads as it did. -/
def keysRowUptoRow : OpenClaim := { program := "ytkicenpcklknnaadoor", sum := "f1b0a4840c5bed54032e47d327314d7ab9f9db41e25bee23fea60ea0562f8a11", func := "clavier/clavierlaw09.KeysRow", spec := "keysRow", unfollowed := true, recurses := true, named := ["clavier/keys.rows", "clavier/utf.sizes"], apart := false, laid := [("clavier/utf.sizes", laid_clavier_utf_sizes), ("clavier/keys.rows", laid_clavier_keys_rows)], narrowed := true }
def KeysRowUptoSaid : Prop := keysRowUptoRow.holds Tryd.pinned (OpenSpec.upto keysRowSpec)

/-- 'clavierlaw09.KeysFind', WHERE WHAT IT READS IS OF BULK AT MOST 1048576: true; the input reads as it did. -/
def keysFindUptoRow : OpenClaim := { program := "ytkicenpcklknnaadoor", sum := "f1b0a4840c5bed54032e47d327314d7ab9f9db41e25bee23fea60ea0562f8a11", func := "clavier/clavierlaw09.KeysFind", spec := "keysFind", unfollowed := true, recurses := true, named := ["clavier/keys.rows", "clavier/utf.sizes"], apart := false, laid := [("clavier/utf.sizes", laid_clavier_utf_sizes), ("clavier/keys.rows", laid_clavier_keys_rows)], narrowed := true }
def KeysFindUptoSaid : Prop := keysFindUptoRow.holds Tryd.pinned (OpenSpec.upto keysFindSpec)

/-- 'clavierlaw09.KeysBack', WHERE WHAT IT READS IS OF BULK AT MOST 1048576: true; the input reads as it did. -/
def keysBackUptoRow : OpenClaim := { program := "ytkicenpcklknnaadoor", sum := "f1b0a4840c5bed54032e47d327314d7ab9f9db41e25bee23fea60ea0562f8a11", func := "clavier/clavierlaw09.KeysBack", spec := "keysBack", unfollowed := true, recurses := true, named := ["clavier/keys.rows", "clavier/utf.sizes"], apart := false, laid := [("clavier/utf.sizes", laid_clavier_utf_sizes), ("clavier/keys.rows", laid_clavier_keys_rows)], narrowed := true }
def KeysBackUptoSaid : Prop := keysBackUptoRow.holds Tryd.pinned (OpenSpec.upto keysBackSpec)

/-- 'clavierlaw09.KeysKinds', WHERE WHAT IT READS IS OF BULK AT MOST 1048576: true; the input reads as it did. -/
def keysKindsUptoRow : OpenClaim := { program := "ytkicenpcklknnaadoor", sum := "f1b0a4840c5bed54032e47d327314d7ab9f9db41e25bee23fea60ea0562f8a11", func := "clavier/clavierlaw09.KeysKinds", spec := "keysKinds", unfollowed := true, recurses := true, named := ["clavier/keys.rows", "clavier/utf.sizes"], apart := false, laid := [("clavier/utf.sizes", laid_clavier_utf_sizes), ("clavier/keys.rows", laid_clavier_keys_rows)], narrowed := true }
def KeysKindsUptoSaid : Prop := keysKindsUptoRow.holds Tryd.pinned (OpenSpec.upto keysKindsSpec)

/-- 'clavierlaw09.KeysPad', WHERE WHAT IT READS IS OF BULK AT MOST 1048576: true; the input reads as it did. -/
def keysPadUptoRow : OpenClaim := { program := "ytkicenpcklknnaadoor", sum := "f1b0a4840c5bed54032e47d327314d7ab9f9db41e25bee23fea60ea0562f8a11", func := "clavier/clavierlaw09.KeysPad", spec := "keysPad", unfollowed := true, recurses := true, named := ["clavier/keys.rows", "clavier/utf.sizes"], apart := false, laid := [("clavier/utf.sizes", laid_clavier_utf_sizes), ("clavier/keys.rows", laid_clavier_keys_rows)], narrowed := true }
def KeysPadUptoSaid : Prop := keysPadUptoRow.holds Tryd.pinned (OpenSpec.upto keysPadSpec)

end Rows
end Go.Proofs.YtkicenpcklknnaaDoor

/-
  NARROWER THAN 'FOR EVERY INPUT', by the rows' own cells (each row's printed sentence says how): BoardTells: laid · BoardApart: laid · BoardLock: laid · BoardWhole: laid · BoardFlags: laid · BoardTypes: laid.
  DERIVED. THE GIVEN ROWS OF THIS SEAT. 6 by the template 'for every input the law returns true; each argument reads behind the call as it read before'; 0 by the template 'total and deterministic' (their statements: YtceipblcdcgljaaGreatDoorTotals.lean).
  GIVEN WITH THE SEED: the statements are not yours to turn. If you find one false, say at which input.
  Laid BY PROGRAM, IN A SANDBOX (cutbox-rows.mjs): the forced cells as the released guide's own fill.sh prints them over the translation e6e3f0595f352d9f… (all of the seat's roots in one cut). By AI agents, Wed Nov 11 2026. No macro, syntax, notation, axiom, sorry.
-/
import Derived.Test.YtceipblcdcgljaaGreatDoorChecked
import GoSem.Claim
import GoSem.ClaimJoined
import GoSem.ClaimMapViews
import Derived.JoinedTies
import Derived.KernelRfl
namespace Go.Proofs.YtceipblcdcgljaaGreatDoor
/- THE CELL 'sum', in the pinned program and in every row, IS THE sha256 OF THE DUMP (.gsa) THAT YtceipblcdcgljaaGreatDoorProg.lean LOADS. Nothing in Lean hashes anything: it is a label: what it is worth is what the hold of that sum in a sandbox is worth. -/
noncomputable def Tryz.pinned : Pinned := { name := "ytceipblcdcgljaagreatdoor", sum := "e6e3f0595f352d9f02821b1ea0ddfd40b3c52c4f853494bc920b0dd389647269", checked := Tryz.checked }
namespace Rows
def none {H : Type} : Left H := { results := [], args := [] }

/- WHAT THE LISTED PACKAGE-LEVEL VARIABLES READ AS WHEN THE CALL BEGINS. Each datum BY PROGRAM (the guide's laid-datum.mjs) off the statement by which the dump's own 'gosem.cut.vars' lays the variable. In a bare row this is a premise. The card (YtceipblcdcgljaaGreatDoorCards.lean) ties it to the program's text. -/
def laid_math_bits_deBruijn32tab {H : Type} : DataW H := .agg [.lit (.int .u8 0), .lit (.int .u8 1), .lit (.int .u8 28), .lit (.int .u8 2), .lit (.int .u8 29), .lit (.int .u8 14), .lit (.int .u8 24), .lit (.int .u8 3), .lit (.int .u8 30), .lit (.int .u8 22), .lit (.int .u8 20), .lit (.int .u8 15), .lit (.int .u8 25), .lit (.int .u8 17), .lit (.int .u8 4), .lit (.int .u8 8), .lit (.int .u8 31), .lit (.int .u8 27), .lit (.int .u8 13), .lit (.int .u8 23), .lit (.int .u8 21), .lit (.int .u8 19), .lit (.int .u8 16), .lit (.int .u8 7), .lit (.int .u8 26), .lit (.int .u8 12), .lit (.int .u8 18), .lit (.int .u8 6), .lit (.int .u8 11), .lit (.int .u8 5), .lit (.int .u8 10), .lit (.int .u8 9)]
def laid_math_bits_deBruijn64tab {H : Type} : DataW H := .agg [.lit (.int .u8 0), .lit (.int .u8 1), .lit (.int .u8 56), .lit (.int .u8 2), .lit (.int .u8 57), .lit (.int .u8 49), .lit (.int .u8 28), .lit (.int .u8 3), .lit (.int .u8 61), .lit (.int .u8 58), .lit (.int .u8 42), .lit (.int .u8 50), .lit (.int .u8 38), .lit (.int .u8 29), .lit (.int .u8 17), .lit (.int .u8 4), .lit (.int .u8 62), .lit (.int .u8 47), .lit (.int .u8 59), .lit (.int .u8 36), .lit (.int .u8 45), .lit (.int .u8 43), .lit (.int .u8 51), .lit (.int .u8 22), .lit (.int .u8 53), .lit (.int .u8 39), .lit (.int .u8 33), .lit (.int .u8 30), .lit (.int .u8 24), .lit (.int .u8 18), .lit (.int .u8 12), .lit (.int .u8 5), .lit (.int .u8 63), .lit (.int .u8 55), .lit (.int .u8 48), .lit (.int .u8 27), .lit (.int .u8 60), .lit (.int .u8 41), .lit (.int .u8 37), .lit (.int .u8 16), .lit (.int .u8 46), .lit (.int .u8 35), .lit (.int .u8 44), .lit (.int .u8 21), .lit (.int .u8 52), .lit (.int .u8 32), .lit (.int .u8 23), .lit (.int .u8 11), .lit (.int .u8 54), .lit (.int .u8 26), .lit (.int .u8 40), .lit (.int .u8 15), .lit (.int .u8 34), .lit (.int .u8 20), .lit (.int .u8 31), .lit (.int .u8 10), .lit (.int .u8 25), .lit (.int .u8 14), .lit (.int .u8 19), .lit (.int .u8 9), .lit (.int .u8 13), .lit (.int .u8 8), .lit (.int .u8 7), .lit (.int .u8 6)]
def laid_internal_strconv_uint64pow10 {H : Type} : DataW H := .agg [.lit (.int .u64 1), .lit (.int .u64 10), .lit (.int .u64 100), .lit (.int .u64 1000), .lit (.int .u64 10000), .lit (.int .u64 100000), .lit (.int .u64 1000000), .lit (.int .u64 10000000), .lit (.int .u64 100000000), .lit (.int .u64 1000000000), .lit (.int .u64 10000000000), .lit (.int .u64 100000000000), .lit (.int .u64 1000000000000), .lit (.int .u64 10000000000000), .lit (.int .u64 100000000000000), .lit (.int .u64 1000000000000000), .lit (.int .u64 10000000000000000), .lit (.int .u64 100000000000000000), .lit (.int .u64 1000000000000000000), .lit (.int .u64 10000000000000000000)]
def laid_clavier_utf_sizes {H : Type} : DataW H := .agg [.agg [.lit (.int .i64 1), .lit (.int .i64 0), .lit (.int .i64 0)], .agg [.lit (.int .i64 2), .lit (.int .i64 128), .lit (.int .i64 192)], .agg [.lit (.int .i64 3), .lit (.int .i64 2048), .lit (.int .i64 224)], .agg [.lit (.int .i64 4), .lit (.int .i64 65536), .lit (.int .i64 240)]]
def laid_clavier_keys_rows {H : Type} : DataW H := .slice [.agg [.lit (.int .i64 9), .lit (.int .i64 9), .lit (.int .i64 2), .lit (.string []), .nil, .lit (.string []), .lit (.bool false)], .agg [.lit (.int .i64 13), .lit (.int .i64 13), .lit (.int .i64 2), .lit (.string []), .nil, .lit (.string []), .lit (.bool false)], .agg [.lit (.int .i64 27), .lit (.int .i64 27), .lit (.int .i64 2), .lit (.string []), .nil, .lit (.string []), .lit (.bool false)], .agg [.lit (.int .i64 127), .lit (.int .i64 127), .lit (.int .i64 2), .lit (.string []), .nil, .lit (.string []), .lit (.bool false)], .agg [.lit (.int .i64 57350), .lit (.int .i64 57353), .lit (.int .i64 3), .lit (.string [68, 67, 65, 66]), .nil, .lit (.string []), .lit (.bool false)], .agg [.lit (.int .i64 57356), .lit (.int .i64 57357), .lit (.int .i64 3), .lit (.string [72, 70]), .nil, .lit (.string []), .lit (.bool false)], .agg [.lit (.int .i64 57364), .lit (.int .i64 57367), .lit (.int .i64 3), .lit (.string [80, 81, 82, 83]), .nil, .lit (.string []), .lit (.bool false)], .agg [.lit (.int .i64 57348), .lit (.int .i64 57349), .lit (.int .i64 4), .lit (.string []), .slice [.lit (.int .i64 2), .lit (.int .i64 3)] [], .lit (.string []), .lit (.bool false)], .agg [.lit (.int .i64 57354), .lit (.int .i64 57355), .lit (.int .i64 4), .lit (.string []), .slice [.lit (.int .i64 5), .lit (.int .i64 6)] [], .lit (.string []), .lit (.bool false)], .agg [.lit (.int .i64 57368), .lit (.int .i64 57375), .lit (.int .i64 4), .lit (.string []), .slice [.lit (.int .i64 15), .lit (.int .i64 17), .lit (.int .i64 18), .lit (.int .i64 19), .lit (.int .i64 20), .lit (.int .i64 21), .lit (.int .i64 23), .lit (.int .i64 24)] [], .lit (.string []), .lit (.bool false)], .agg [.lit (.int .i64 57363), .lit (.int .i64 57363), .lit (.int .i64 4), .lit (.string []), .slice [.lit (.int .i64 29)] [], .lit (.string []), .lit (.bool false)], .agg [.lit (.int .i64 57399), .lit (.int .i64 57408), .lit (.int .i64 5), .lit (.string [112, 113, 114, 115, 116, 117, 118, 119, 120, 121]), .nil, .lit (.string [48, 49, 50, 51, 52, 53, 54, 55, 56, 57]), .lit (.bool true)], .agg [.lit (.int .i64 57409), .lit (.int .i64 57416), .lit (.int .i64 5), .lit (.string [110, 111, 106, 109, 107, 77, 88, 108]), .nil, .lit (.string [46, 47, 42, 45, 43, 13, 61, 44]), .lit (.bool true)], .agg [.lit (.int .i64 57417), .lit (.int .i64 57420), .lit (.int .i64 3), .lit (.string [68, 67, 65, 66]), .nil, .lit (.string []), .lit (.bool true)], .agg [.lit (.int .i64 57423), .lit (.int .i64 57424), .lit (.int .i64 3), .lit (.string [72, 70]), .nil, .lit (.string []), .lit (.bool true)], .agg [.lit (.int .i64 57427), .lit (.int .i64 57427), .lit (.int .i64 3), .lit (.string [69]), .nil, .lit (.string []), .lit (.bool true)], .agg [.lit (.int .i64 57421), .lit (.int .i64 57422), .lit (.int .i64 4), .lit (.string []), .slice [.lit (.int .i64 5), .lit (.int .i64 6)] [], .lit (.string []), .lit (.bool true)], .agg [.lit (.int .i64 57425), .lit (.int .i64 57426), .lit (.int .i64 4), .lit (.string []), .slice [.lit (.int .i64 2), .lit (.int .i64 3)] [], .lit (.string []), .lit (.bool true)], .agg [.lit (.int .i64 57358), .lit (.int .i64 57362), .lit (.int .i64 6), .lit (.string []), .nil, .lit (.string []), .lit (.bool false)], .agg [.lit (.int .i64 57376), .lit (.int .i64 57398), .lit (.int .i64 6), .lit (.string []), .nil, .lit (.string []), .lit (.bool false)], .agg [.lit (.int .i64 57428), .lit (.int .i64 57440), .lit (.int .i64 6), .lit (.string []), .nil, .lit (.string []), .lit (.bool false)], .agg [.lit (.int .i64 57441), .lit (.int .i64 57454), .lit (.int .i64 7), .lit (.string []), .nil, .lit (.string []), .lit (.bool false)]] []

/-- 'clavierlaw14.BoardTells': WHATEVER THE INPUT: true; the input reads as it did. -/
def boardTellsSpec : ChangeSpec := { name := "boardTells", fn := fun _ => fun
  | [d1, d2, d3] => { results := [.lit (.bool true)], args := [d1, d2, d3] }
  | _ => none }
def boardTellsRow : OpenClaim := { program := "ytceipblcdcgljaagreatdoor", sum := "e6e3f0595f352d9f02821b1ea0ddfd40b3c52c4f853494bc920b0dd389647269", func := "clavier/clavierlaw14.BoardTells", spec := "boardTells", inPlace := ["internal/bytealg.IndexByteString", "internal/abi.NoEscape", "internal/bytealg.MakeNoZero"], unfollowed := true, recurses := true, named := ["clavier/keys.rows", "clavier/utf.sizes", "internal/strconv.uint64pow10", "math/bits.deBruijn32tab", "math/bits.deBruijn64tab"], apart := false, laid := [("math/bits.deBruijn32tab", laid_math_bits_deBruijn32tab), ("math/bits.deBruijn64tab", laid_math_bits_deBruijn64tab), ("internal/strconv.uint64pow10", laid_internal_strconv_uint64pow10), ("clavier/utf.sizes", laid_clavier_utf_sizes), ("clavier/keys.rows", laid_clavier_keys_rows)] }
def BoardTellsSaid : Prop := boardTellsRow.holds Tryz.pinned (OpenSpec.ofChange boardTellsSpec)

/-- ITS FALSE NEIGHBOUR: 'it returns false'. Refute it at one input. -/
def boardTellsWrong : ChangeSpec := { name := "boardTells", fn := fun _ => fun
  | [d1, d2, d3] => { results := [.lit (.bool false)], args := [d1, d2, d3] }
  | _ => none }
def BoardTellsWrongFalsely : Prop := boardTellsRow.holds Tryz.pinned (OpenSpec.ofChange boardTellsWrong)

/-- 'clavierlaw14.BoardApart': WHATEVER THE INPUT: true; the input reads as it did. -/
def boardApartSpec : ChangeSpec := { name := "boardApart", fn := fun _ => fun
  | [d1, d2, d3] => { results := [.lit (.bool true)], args := [d1, d2, d3] }
  | _ => none }
def boardApartRow : OpenClaim := { program := "ytceipblcdcgljaagreatdoor", sum := "e6e3f0595f352d9f02821b1ea0ddfd40b3c52c4f853494bc920b0dd389647269", func := "clavier/clavierlaw14.BoardApart", spec := "boardApart", inPlace := ["internal/bytealg.IndexByteString", "internal/abi.NoEscape", "internal/bytealg.MakeNoZero"], unfollowed := true, recurses := true, named := ["clavier/keys.rows", "clavier/utf.sizes", "internal/strconv.uint64pow10", "math/bits.deBruijn32tab", "math/bits.deBruijn64tab"], apart := false, laid := [("math/bits.deBruijn32tab", laid_math_bits_deBruijn32tab), ("math/bits.deBruijn64tab", laid_math_bits_deBruijn64tab), ("internal/strconv.uint64pow10", laid_internal_strconv_uint64pow10), ("clavier/utf.sizes", laid_clavier_utf_sizes), ("clavier/keys.rows", laid_clavier_keys_rows)] }
def BoardApartSaid : Prop := boardApartRow.holds Tryz.pinned (OpenSpec.ofChange boardApartSpec)

/-- ITS FALSE NEIGHBOUR: 'it returns false'. Refute it at one input. -/
def boardApartWrong : ChangeSpec := { name := "boardApart", fn := fun _ => fun
  | [d1, d2, d3] => { results := [.lit (.bool false)], args := [d1, d2, d3] }
  | _ => none }
def BoardApartWrongFalsely : Prop := boardApartRow.holds Tryz.pinned (OpenSpec.ofChange boardApartWrong)

/-- 'clavierlaw14.BoardLock': WHATEVER THE INPUT: true; the input reads as it did. -/
def boardLockSpec : ChangeSpec := { name := "boardLock", fn := fun _ => fun
  | [d1, d2, d3] => { results := [.lit (.bool true)], args := [d1, d2, d3] }
  | _ => none }
def boardLockRow : OpenClaim := { program := "ytceipblcdcgljaagreatdoor", sum := "e6e3f0595f352d9f02821b1ea0ddfd40b3c52c4f853494bc920b0dd389647269", func := "clavier/clavierlaw14.BoardLock", spec := "boardLock", inPlace := ["internal/bytealg.IndexByteString", "internal/abi.NoEscape", "internal/bytealg.MakeNoZero"], unfollowed := true, recurses := true, named := ["clavier/keys.rows", "clavier/utf.sizes", "internal/strconv.uint64pow10", "math/bits.deBruijn32tab", "math/bits.deBruijn64tab"], apart := false, laid := [("math/bits.deBruijn32tab", laid_math_bits_deBruijn32tab), ("math/bits.deBruijn64tab", laid_math_bits_deBruijn64tab), ("internal/strconv.uint64pow10", laid_internal_strconv_uint64pow10), ("clavier/utf.sizes", laid_clavier_utf_sizes), ("clavier/keys.rows", laid_clavier_keys_rows)] }
def BoardLockSaid : Prop := boardLockRow.holds Tryz.pinned (OpenSpec.ofChange boardLockSpec)

/-- ITS FALSE NEIGHBOUR: 'it returns false'. Refute it at one input. -/
def boardLockWrong : ChangeSpec := { name := "boardLock", fn := fun _ => fun
  | [d1, d2, d3] => { results := [.lit (.bool false)], args := [d1, d2, d3] }
  | _ => none }
def BoardLockWrongFalsely : Prop := boardLockRow.holds Tryz.pinned (OpenSpec.ofChange boardLockWrong)

/-- 'clavierlaw14.BoardWhole': WHATEVER THE INPUT: true; the input reads as it did. -/
def boardWholeSpec : ChangeSpec := { name := "boardWhole", fn := fun _ => fun
  | [d1, d2, d3] => { results := [.lit (.bool true)], args := [d1, d2, d3] }
  | _ => none }
def boardWholeRow : OpenClaim := { program := "ytceipblcdcgljaagreatdoor", sum := "e6e3f0595f352d9f02821b1ea0ddfd40b3c52c4f853494bc920b0dd389647269", func := "clavier/clavierlaw14.BoardWhole", spec := "boardWhole", inPlace := ["internal/bytealg.IndexByteString", "internal/abi.NoEscape", "internal/bytealg.MakeNoZero"], unfollowed := true, recurses := true, named := ["clavier/keys.rows", "clavier/utf.sizes", "internal/strconv.uint64pow10", "math/bits.deBruijn32tab", "math/bits.deBruijn64tab"], apart := false, laid := [("math/bits.deBruijn32tab", laid_math_bits_deBruijn32tab), ("math/bits.deBruijn64tab", laid_math_bits_deBruijn64tab), ("internal/strconv.uint64pow10", laid_internal_strconv_uint64pow10), ("clavier/utf.sizes", laid_clavier_utf_sizes), ("clavier/keys.rows", laid_clavier_keys_rows)] }
def BoardWholeSaid : Prop := boardWholeRow.holds Tryz.pinned (OpenSpec.ofChange boardWholeSpec)

/-- ITS FALSE NEIGHBOUR: 'it returns false'. Refute it at one input. -/
def boardWholeWrong : ChangeSpec := { name := "boardWhole", fn := fun _ => fun
  | [d1, d2, d3] => { results := [.lit (.bool false)], args := [d1, d2, d3] }
  | _ => none }
def BoardWholeWrongFalsely : Prop := boardWholeRow.holds Tryz.pinned (OpenSpec.ofChange boardWholeWrong)

/-- 'clavierlaw14.BoardFlags': WHATEVER THE INPUT: true; the input reads as it did. -/
def boardFlagsSpec : ChangeSpec := { name := "boardFlags", fn := fun _ => fun
  | [d1, d2, d3] => { results := [.lit (.bool true)], args := [d1, d2, d3] }
  | _ => none }
def boardFlagsRow : OpenClaim := { program := "ytceipblcdcgljaagreatdoor", sum := "e6e3f0595f352d9f02821b1ea0ddfd40b3c52c4f853494bc920b0dd389647269", func := "clavier/clavierlaw14.BoardFlags", spec := "boardFlags", inPlace := ["internal/bytealg.IndexByteString", "internal/abi.NoEscape", "internal/bytealg.MakeNoZero"], unfollowed := true, recurses := true, named := ["clavier/keys.rows", "clavier/utf.sizes", "internal/strconv.uint64pow10", "math/bits.deBruijn32tab", "math/bits.deBruijn64tab"], apart := false, laid := [("math/bits.deBruijn32tab", laid_math_bits_deBruijn32tab), ("math/bits.deBruijn64tab", laid_math_bits_deBruijn64tab), ("internal/strconv.uint64pow10", laid_internal_strconv_uint64pow10), ("clavier/utf.sizes", laid_clavier_utf_sizes), ("clavier/keys.rows", laid_clavier_keys_rows)] }
def BoardFlagsSaid : Prop := boardFlagsRow.holds Tryz.pinned (OpenSpec.ofChange boardFlagsSpec)

/-- ITS FALSE NEIGHBOUR: 'it returns false'. Refute it at one input. -/
def boardFlagsWrong : ChangeSpec := { name := "boardFlags", fn := fun _ => fun
  | [d1, d2, d3] => { results := [.lit (.bool false)], args := [d1, d2, d3] }
  | _ => none }
def BoardFlagsWrongFalsely : Prop := boardFlagsRow.holds Tryz.pinned (OpenSpec.ofChange boardFlagsWrong)

/-- 'clavierlaw14.BoardTypes': WHATEVER THE INPUT: true; the input reads as it did. -/
def boardTypesSpec : ChangeSpec := { name := "boardTypes", fn := fun _ => fun
  | [d1, d2, d3] => { results := [.lit (.bool true)], args := [d1, d2, d3] }
  | _ => none }
def boardTypesRow : OpenClaim := { program := "ytceipblcdcgljaagreatdoor", sum := "e6e3f0595f352d9f02821b1ea0ddfd40b3c52c4f853494bc920b0dd389647269", func := "clavier/clavierlaw14.BoardTypes", spec := "boardTypes", inPlace := ["internal/bytealg.IndexByteString", "internal/abi.NoEscape", "internal/bytealg.MakeNoZero"], unfollowed := true, recurses := true, named := ["clavier/keys.rows", "clavier/utf.sizes", "internal/strconv.uint64pow10", "math/bits.deBruijn32tab", "math/bits.deBruijn64tab"], apart := false, laid := [("math/bits.deBruijn32tab", laid_math_bits_deBruijn32tab), ("math/bits.deBruijn64tab", laid_math_bits_deBruijn64tab), ("internal/strconv.uint64pow10", laid_internal_strconv_uint64pow10), ("clavier/utf.sizes", laid_clavier_utf_sizes), ("clavier/keys.rows", laid_clavier_keys_rows)] }
def BoardTypesSaid : Prop := boardTypesRow.holds Tryz.pinned (OpenSpec.ofChange boardTypesSpec)

/-- ITS FALSE NEIGHBOUR: 'it returns false'. Refute it at one input. -/
def boardTypesWrong : ChangeSpec := { name := "boardTypes", fn := fun _ => fun
  | [d1, d2, d3] => { results := [.lit (.bool false)], args := [d1, d2, d3] }
  | _ => none }
def BoardTypesWrongFalsely : Prop := boardTypesRow.holds Tryz.pinned (OpenSpec.ofChange boardTypesWrong)

/- THE SECOND FORM. 'bulk': how many values and letters a reading holds, each counted each time it is reached (what is shared counts as often as it is met; a slice's spare places count too). A statement '..UptoSaid' is the law's where the arguments, and the package variables that the reading takes, are together of bulk at most 1048576: NARROWER than '..Said'. Prove '..Said' where nothing that the law and all that it calls make is longer than what came in: it says more and counts as full. Else prove '..UptoSaid'. A law counts once. -/
mutual
def uptoBulk {H : Type} : DataW H → Nat
  | .lit (.string bytes) => bytes.length + 1
  | .lit _ => 1
  | .nil => 1
  | .ptr d => uptoBulk d + 1
  | .slice elems spare => uptoBulkAll elems + uptoBulkAll spare + 1
  | .agg parts => uptoBulkAll parts + 1
  | .iface _ d => uptoBulk d + 1
  | .map entries => uptoBulkEntries entries + 1
  | .held _ => 1
def uptoBulkAll {H : Type} : List (DataW H) → Nat
  | [] => 0
  | d :: r => uptoBulk d + uptoBulkAll r
def uptoBulkEntries {H : Type} : List (Lit × DataW H) → Nat
  | [] => 0
  | x :: r => uptoBulkEntry x + uptoBulkEntries r
def uptoBulkEntry {H : Type} : Lit × DataW H → Nat
  | (.string bytes, d) => bytes.length + uptoBulk d + 1
  | (_, d) => uptoBulk d + 1
 end
def uptoSmall : (H : Type) → List (DataW H) → Bool := fun _ ds => decide (uptoBulkAll ds ≤ 1048576)
def OpenSpec.upto (s : _root_.Go.ChangeSpec) : _root_.Go.OpenSpec := { _root_.Go.OpenSpec.ofChange s with cond := some uptoSmall }

/-- 'clavierlaw14.BoardTells', WHERE WHAT IT READS IS OF BULK AT MOST 1048576: true; the input reads as it did. -/
def boardTellsUptoRow : OpenClaim := { program := "ytceipblcdcgljaagreatdoor", sum := "e6e3f0595f352d9f02821b1ea0ddfd40b3c52c4f853494bc920b0dd389647269", func := "clavier/clavierlaw14.BoardTells", spec := "boardTells", inPlace := ["internal/bytealg.IndexByteString", "internal/abi.NoEscape", "internal/bytealg.MakeNoZero"], unfollowed := true, recurses := true, named := ["clavier/keys.rows", "clavier/utf.sizes", "internal/strconv.uint64pow10", "math/bits.deBruijn32tab", "math/bits.deBruijn64tab"], apart := false, laid := [("math/bits.deBruijn32tab", laid_math_bits_deBruijn32tab), ("math/bits.deBruijn64tab", laid_math_bits_deBruijn64tab), ("internal/strconv.uint64pow10", laid_internal_strconv_uint64pow10), ("clavier/utf.sizes", laid_clavier_utf_sizes), ("clavier/keys.rows", laid_clavier_keys_rows)], narrowed := true }
def BoardTellsUptoSaid : Prop := boardTellsUptoRow.holds Tryz.pinned (OpenSpec.upto boardTellsSpec)

/-- 'clavierlaw14.BoardApart', WHERE WHAT IT READS IS OF BULK AT MOST 1048576: true; the input reads as it did. -/
def boardApartUptoRow : OpenClaim := { program := "ytceipblcdcgljaagreatdoor", sum := "e6e3f0595f352d9f02821b1ea0ddfd40b3c52c4f853494bc920b0dd389647269", func := "clavier/clavierlaw14.BoardApart", spec := "boardApart", inPlace := ["internal/bytealg.IndexByteString", "internal/abi.NoEscape", "internal/bytealg.MakeNoZero"], unfollowed := true, recurses := true, named := ["clavier/keys.rows", "clavier/utf.sizes", "internal/strconv.uint64pow10", "math/bits.deBruijn32tab", "math/bits.deBruijn64tab"], apart := false, laid := [("math/bits.deBruijn32tab", laid_math_bits_deBruijn32tab), ("math/bits.deBruijn64tab", laid_math_bits_deBruijn64tab), ("internal/strconv.uint64pow10", laid_internal_strconv_uint64pow10), ("clavier/utf.sizes", laid_clavier_utf_sizes), ("clavier/keys.rows", laid_clavier_keys_rows)], narrowed := true }
def BoardApartUptoSaid : Prop := boardApartUptoRow.holds Tryz.pinned (OpenSpec.upto boardApartSpec)

/-- 'clavierlaw14.BoardLock', WHERE WHAT IT READS IS OF BULK AT MOST 1048576: true; the input reads as it did. -/
def boardLockUptoRow : OpenClaim := { program := "ytceipblcdcgljaagreatdoor", sum := "e6e3f0595f352d9f02821b1ea0ddfd40b3c52c4f853494bc920b0dd389647269", func := "clavier/clavierlaw14.BoardLock", spec := "boardLock", inPlace := ["internal/bytealg.IndexByteString", "internal/abi.NoEscape", "internal/bytealg.MakeNoZero"], unfollowed := true, recurses := true, named := ["clavier/keys.rows", "clavier/utf.sizes", "internal/strconv.uint64pow10", "math/bits.deBruijn32tab", "math/bits.deBruijn64tab"], apart := false, laid := [("math/bits.deBruijn32tab", laid_math_bits_deBruijn32tab), ("math/bits.deBruijn64tab", laid_math_bits_deBruijn64tab), ("internal/strconv.uint64pow10", laid_internal_strconv_uint64pow10), ("clavier/utf.sizes", laid_clavier_utf_sizes), ("clavier/keys.rows", laid_clavier_keys_rows)], narrowed := true }
def BoardLockUptoSaid : Prop := boardLockUptoRow.holds Tryz.pinned (OpenSpec.upto boardLockSpec)

/-- 'clavierlaw14.BoardWhole', WHERE WHAT IT READS IS OF BULK AT MOST 1048576: true; the input reads as it did. -/
def boardWholeUptoRow : OpenClaim := { program := "ytceipblcdcgljaagreatdoor", sum := "e6e3f0595f352d9f02821b1ea0ddfd40b3c52c4f853494bc920b0dd389647269", func := "clavier/clavierlaw14.BoardWhole", spec := "boardWhole", inPlace := ["internal/bytealg.IndexByteString", "internal/abi.NoEscape", "internal/bytealg.MakeNoZero"], unfollowed := true, recurses := true, named := ["clavier/keys.rows", "clavier/utf.sizes", "internal/strconv.uint64pow10", "math/bits.deBruijn32tab", "math/bits.deBruijn64tab"], apart := false, laid := [("math/bits.deBruijn32tab", laid_math_bits_deBruijn32tab), ("math/bits.deBruijn64tab", laid_math_bits_deBruijn64tab), ("internal/strconv.uint64pow10", laid_internal_strconv_uint64pow10), ("clavier/utf.sizes", laid_clavier_utf_sizes), ("clavier/keys.rows", laid_clavier_keys_rows)], narrowed := true }
def BoardWholeUptoSaid : Prop := boardWholeUptoRow.holds Tryz.pinned (OpenSpec.upto boardWholeSpec)

/-- 'clavierlaw14.BoardFlags', WHERE WHAT IT READS IS OF BULK AT MOST 1048576: true; the input reads as it did. -/
def boardFlagsUptoRow : OpenClaim := { program := "ytceipblcdcgljaagreatdoor", sum := "e6e3f0595f352d9f02821b1ea0ddfd40b3c52c4f853494bc920b0dd389647269", func := "clavier/clavierlaw14.BoardFlags", spec := "boardFlags", inPlace := ["internal/bytealg.IndexByteString", "internal/abi.NoEscape", "internal/bytealg.MakeNoZero"], unfollowed := true, recurses := true, named := ["clavier/keys.rows", "clavier/utf.sizes", "internal/strconv.uint64pow10", "math/bits.deBruijn32tab", "math/bits.deBruijn64tab"], apart := false, laid := [("math/bits.deBruijn32tab", laid_math_bits_deBruijn32tab), ("math/bits.deBruijn64tab", laid_math_bits_deBruijn64tab), ("internal/strconv.uint64pow10", laid_internal_strconv_uint64pow10), ("clavier/utf.sizes", laid_clavier_utf_sizes), ("clavier/keys.rows", laid_clavier_keys_rows)], narrowed := true }
def BoardFlagsUptoSaid : Prop := boardFlagsUptoRow.holds Tryz.pinned (OpenSpec.upto boardFlagsSpec)

/-- 'clavierlaw14.BoardTypes', WHERE WHAT IT READS IS OF BULK AT MOST 1048576: true; the input reads as it did. -/
def boardTypesUptoRow : OpenClaim := { program := "ytceipblcdcgljaagreatdoor", sum := "e6e3f0595f352d9f02821b1ea0ddfd40b3c52c4f853494bc920b0dd389647269", func := "clavier/clavierlaw14.BoardTypes", spec := "boardTypes", inPlace := ["internal/bytealg.IndexByteString", "internal/abi.NoEscape", "internal/bytealg.MakeNoZero"], unfollowed := true, recurses := true, named := ["clavier/keys.rows", "clavier/utf.sizes", "internal/strconv.uint64pow10", "math/bits.deBruijn32tab", "math/bits.deBruijn64tab"], apart := false, laid := [("math/bits.deBruijn32tab", laid_math_bits_deBruijn32tab), ("math/bits.deBruijn64tab", laid_math_bits_deBruijn64tab), ("internal/strconv.uint64pow10", laid_internal_strconv_uint64pow10), ("clavier/utf.sizes", laid_clavier_utf_sizes), ("clavier/keys.rows", laid_clavier_keys_rows)], narrowed := true }
def BoardTypesUptoSaid : Prop := boardTypesUptoRow.holds Tryz.pinned (OpenSpec.upto boardTypesSpec)

end Rows
end Go.Proofs.YtceipblcdcgljaaGreatDoor

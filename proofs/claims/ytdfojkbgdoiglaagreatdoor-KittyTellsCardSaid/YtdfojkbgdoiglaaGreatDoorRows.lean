/-
  NARROWER THAN 'FOR EVERY INPUT', by the rows' own cells (each row's printed sentence says how): KittyTells: laid · KittyAll: laid · KittyOne: laid.
  DERIVED. THE GIVEN ROWS OF THIS SEAT. 3 by the template 'for every input the law returns true; each argument reads behind the call as it read before'; 0 by the template 'total and deterministic' (their statements: YtdfojkbgdoiglaaGreatDoorTotals.lean).
  GIVEN WITH THE SEED: the statements are not yours to turn. If you find one false, say at which input.
  Laid BY PROGRAM, IN A SANDBOX (cutbox-rows.mjs): the forced cells as the released guide's own fill.sh prints them over the translation 2039537c74c0e27a… (all of the seat's roots in one cut). By AI agents, Wed Nov 11 2026. No macro, syntax, notation, axiom, sorry.
-/
import Derived.Test.YtdfojkbgdoiglaaGreatDoorChecked
import GoSem.Claim
import GoSem.ClaimJoined
import GoSem.ClaimMapViews
import Derived.JoinedTies
import Derived.KernelRfl
namespace Go.Proofs.YtdfojkbgdoiglaaGreatDoor
/- THE CELL 'sum', in the pinned program and in every row, IS THE sha256 OF THE DUMP (.gsa) THAT YtdfojkbgdoiglaaGreatDoorProg.lean LOADS. Nothing in Lean hashes anything: it is a label: what it is worth is what the hold of that sum in a sandbox is worth. -/
noncomputable def Tryz.pinned : Pinned := { name := "ytdfojkbgdoiglaagreatdoor", sum := "2039537c74c0e27af3fda0618f54b642b825032252a998e572997191be0d3266", checked := Tryz.checked }
namespace Rows
def none {H : Type} : Left H := { results := [], args := [] }

/- WHAT THE LISTED PACKAGE-LEVEL VARIABLES READ AS WHEN THE CALL BEGINS. Each datum BY PROGRAM (the guide's laid-datum.mjs) off the statement by which the dump's own 'gosem.cut.vars' lays the variable. In a bare row this is a premise. The card (YtdfojkbgdoiglaaGreatDoorCards.lean) ties it to the program's text. -/
def laid_math_bits_deBruijn32tab {H : Type} : DataW H := .agg [.lit (.int .u8 0), .lit (.int .u8 1), .lit (.int .u8 28), .lit (.int .u8 2), .lit (.int .u8 29), .lit (.int .u8 14), .lit (.int .u8 24), .lit (.int .u8 3), .lit (.int .u8 30), .lit (.int .u8 22), .lit (.int .u8 20), .lit (.int .u8 15), .lit (.int .u8 25), .lit (.int .u8 17), .lit (.int .u8 4), .lit (.int .u8 8), .lit (.int .u8 31), .lit (.int .u8 27), .lit (.int .u8 13), .lit (.int .u8 23), .lit (.int .u8 21), .lit (.int .u8 19), .lit (.int .u8 16), .lit (.int .u8 7), .lit (.int .u8 26), .lit (.int .u8 12), .lit (.int .u8 18), .lit (.int .u8 6), .lit (.int .u8 11), .lit (.int .u8 5), .lit (.int .u8 10), .lit (.int .u8 9)]
def laid_math_bits_deBruijn64tab {H : Type} : DataW H := .agg [.lit (.int .u8 0), .lit (.int .u8 1), .lit (.int .u8 56), .lit (.int .u8 2), .lit (.int .u8 57), .lit (.int .u8 49), .lit (.int .u8 28), .lit (.int .u8 3), .lit (.int .u8 61), .lit (.int .u8 58), .lit (.int .u8 42), .lit (.int .u8 50), .lit (.int .u8 38), .lit (.int .u8 29), .lit (.int .u8 17), .lit (.int .u8 4), .lit (.int .u8 62), .lit (.int .u8 47), .lit (.int .u8 59), .lit (.int .u8 36), .lit (.int .u8 45), .lit (.int .u8 43), .lit (.int .u8 51), .lit (.int .u8 22), .lit (.int .u8 53), .lit (.int .u8 39), .lit (.int .u8 33), .lit (.int .u8 30), .lit (.int .u8 24), .lit (.int .u8 18), .lit (.int .u8 12), .lit (.int .u8 5), .lit (.int .u8 63), .lit (.int .u8 55), .lit (.int .u8 48), .lit (.int .u8 27), .lit (.int .u8 60), .lit (.int .u8 41), .lit (.int .u8 37), .lit (.int .u8 16), .lit (.int .u8 46), .lit (.int .u8 35), .lit (.int .u8 44), .lit (.int .u8 21), .lit (.int .u8 52), .lit (.int .u8 32), .lit (.int .u8 23), .lit (.int .u8 11), .lit (.int .u8 54), .lit (.int .u8 26), .lit (.int .u8 40), .lit (.int .u8 15), .lit (.int .u8 34), .lit (.int .u8 20), .lit (.int .u8 31), .lit (.int .u8 10), .lit (.int .u8 25), .lit (.int .u8 14), .lit (.int .u8 19), .lit (.int .u8 9), .lit (.int .u8 13), .lit (.int .u8 8), .lit (.int .u8 7), .lit (.int .u8 6)]
def laid_internal_strconv_uint64pow10 {H : Type} : DataW H := .agg [.lit (.int .u64 1), .lit (.int .u64 10), .lit (.int .u64 100), .lit (.int .u64 1000), .lit (.int .u64 10000), .lit (.int .u64 100000), .lit (.int .u64 1000000), .lit (.int .u64 10000000), .lit (.int .u64 100000000), .lit (.int .u64 1000000000), .lit (.int .u64 10000000000), .lit (.int .u64 100000000000), .lit (.int .u64 1000000000000), .lit (.int .u64 10000000000000), .lit (.int .u64 100000000000000), .lit (.int .u64 1000000000000000), .lit (.int .u64 10000000000000000), .lit (.int .u64 100000000000000000), .lit (.int .u64 1000000000000000000), .lit (.int .u64 10000000000000000000)]
def laid_clavier_utf_sizes {H : Type} : DataW H := .agg [.agg [.lit (.int .i64 1), .lit (.int .i64 0), .lit (.int .i64 0)], .agg [.lit (.int .i64 2), .lit (.int .i64 128), .lit (.int .i64 192)], .agg [.lit (.int .i64 3), .lit (.int .i64 2048), .lit (.int .i64 224)], .agg [.lit (.int .i64 4), .lit (.int .i64 65536), .lit (.int .i64 240)]]
def laid_clavier_keys_rows {H : Type} : DataW H := .slice [.agg [.lit (.int .i64 9), .lit (.int .i64 9), .lit (.int .i64 2), .lit (.string []), .nil, .lit (.string []), .lit (.bool false)], .agg [.lit (.int .i64 13), .lit (.int .i64 13), .lit (.int .i64 2), .lit (.string []), .nil, .lit (.string []), .lit (.bool false)], .agg [.lit (.int .i64 27), .lit (.int .i64 27), .lit (.int .i64 2), .lit (.string []), .nil, .lit (.string []), .lit (.bool false)], .agg [.lit (.int .i64 127), .lit (.int .i64 127), .lit (.int .i64 2), .lit (.string []), .nil, .lit (.string []), .lit (.bool false)], .agg [.lit (.int .i64 57350), .lit (.int .i64 57353), .lit (.int .i64 3), .lit (.string [68, 67, 65, 66]), .nil, .lit (.string []), .lit (.bool false)], .agg [.lit (.int .i64 57356), .lit (.int .i64 57357), .lit (.int .i64 3), .lit (.string [72, 70]), .nil, .lit (.string []), .lit (.bool false)], .agg [.lit (.int .i64 57364), .lit (.int .i64 57367), .lit (.int .i64 3), .lit (.string [80, 81, 82, 83]), .nil, .lit (.string []), .lit (.bool false)], .agg [.lit (.int .i64 57348), .lit (.int .i64 57349), .lit (.int .i64 4), .lit (.string []), .slice [.lit (.int .i64 2), .lit (.int .i64 3)] [], .lit (.string []), .lit (.bool false)], .agg [.lit (.int .i64 57354), .lit (.int .i64 57355), .lit (.int .i64 4), .lit (.string []), .slice [.lit (.int .i64 5), .lit (.int .i64 6)] [], .lit (.string []), .lit (.bool false)], .agg [.lit (.int .i64 57368), .lit (.int .i64 57375), .lit (.int .i64 4), .lit (.string []), .slice [.lit (.int .i64 15), .lit (.int .i64 17), .lit (.int .i64 18), .lit (.int .i64 19), .lit (.int .i64 20), .lit (.int .i64 21), .lit (.int .i64 23), .lit (.int .i64 24)] [], .lit (.string []), .lit (.bool false)], .agg [.lit (.int .i64 57363), .lit (.int .i64 57363), .lit (.int .i64 4), .lit (.string []), .slice [.lit (.int .i64 29)] [], .lit (.string []), .lit (.bool false)], .agg [.lit (.int .i64 57399), .lit (.int .i64 57408), .lit (.int .i64 5), .lit (.string [112, 113, 114, 115, 116, 117, 118, 119, 120, 121]), .nil, .lit (.string [48, 49, 50, 51, 52, 53, 54, 55, 56, 57]), .lit (.bool true)], .agg [.lit (.int .i64 57409), .lit (.int .i64 57416), .lit (.int .i64 5), .lit (.string [110, 111, 106, 109, 107, 77, 88, 108]), .nil, .lit (.string [46, 47, 42, 45, 43, 13, 61, 44]), .lit (.bool true)], .agg [.lit (.int .i64 57417), .lit (.int .i64 57420), .lit (.int .i64 3), .lit (.string [68, 67, 65, 66]), .nil, .lit (.string []), .lit (.bool true)], .agg [.lit (.int .i64 57423), .lit (.int .i64 57424), .lit (.int .i64 3), .lit (.string [72, 70]), .nil, .lit (.string []), .lit (.bool true)], .agg [.lit (.int .i64 57427), .lit (.int .i64 57427), .lit (.int .i64 3), .lit (.string [69]), .nil, .lit (.string []), .lit (.bool true)], .agg [.lit (.int .i64 57421), .lit (.int .i64 57422), .lit (.int .i64 4), .lit (.string []), .slice [.lit (.int .i64 5), .lit (.int .i64 6)] [], .lit (.string []), .lit (.bool true)], .agg [.lit (.int .i64 57425), .lit (.int .i64 57426), .lit (.int .i64 4), .lit (.string []), .slice [.lit (.int .i64 2), .lit (.int .i64 3)] [], .lit (.string []), .lit (.bool true)], .agg [.lit (.int .i64 57358), .lit (.int .i64 57362), .lit (.int .i64 6), .lit (.string []), .nil, .lit (.string []), .lit (.bool false)], .agg [.lit (.int .i64 57376), .lit (.int .i64 57398), .lit (.int .i64 6), .lit (.string []), .nil, .lit (.string []), .lit (.bool false)], .agg [.lit (.int .i64 57428), .lit (.int .i64 57440), .lit (.int .i64 6), .lit (.string []), .nil, .lit (.string []), .lit (.bool false)], .agg [.lit (.int .i64 57441), .lit (.int .i64 57454), .lit (.int .i64 7), .lit (.string []), .nil, .lit (.string []), .lit (.bool false)]] []

/-- 'clavierlaw13.KittyTells': WHATEVER THE INPUT: true; the input reads as it did. -/
def kittyTellsSpec : ChangeSpec := { name := "kittyTells", fn := fun _ => fun
  | [d1, d2] => { results := [.lit (.bool true)], args := [d1, d2] }
  | _ => none }
def kittyTellsRow : OpenClaim := { program := "ytdfojkbgdoiglaagreatdoor", sum := "2039537c74c0e27af3fda0618f54b642b825032252a998e572997191be0d3266", func := "clavier/clavierlaw13.KittyTells", spec := "kittyTells", inPlace := ["internal/bytealg.IndexByteString", "internal/abi.NoEscape", "internal/bytealg.MakeNoZero"], unfollowed := true, recurses := true, named := ["clavier/keys.rows", "clavier/utf.sizes", "internal/strconv.uint64pow10", "math/bits.deBruijn32tab", "math/bits.deBruijn64tab"], apart := false, laid := [("math/bits.deBruijn32tab", laid_math_bits_deBruijn32tab), ("math/bits.deBruijn64tab", laid_math_bits_deBruijn64tab), ("internal/strconv.uint64pow10", laid_internal_strconv_uint64pow10), ("clavier/utf.sizes", laid_clavier_utf_sizes), ("clavier/keys.rows", laid_clavier_keys_rows)] }
def KittyTellsSaid : Prop := kittyTellsRow.holds Tryz.pinned (OpenSpec.ofChange kittyTellsSpec)

/-- ITS FALSE NEIGHBOUR: 'it returns false'. Refute it at one input. -/
def kittyTellsWrong : ChangeSpec := { name := "kittyTells", fn := fun _ => fun
  | [d1, d2] => { results := [.lit (.bool false)], args := [d1, d2] }
  | _ => none }
def KittyTellsWrongFalsely : Prop := kittyTellsRow.holds Tryz.pinned (OpenSpec.ofChange kittyTellsWrong)

/-- 'clavierlaw13.KittyAll': WHATEVER THE INPUT: true; the input reads as it did. -/
def kittyAllSpec : ChangeSpec := { name := "kittyAll", fn := fun _ => fun
  | [d1, d2, d3] => { results := [.lit (.bool true)], args := [d1, d2, d3] }
  | _ => none }
def kittyAllRow : OpenClaim := { program := "ytdfojkbgdoiglaagreatdoor", sum := "2039537c74c0e27af3fda0618f54b642b825032252a998e572997191be0d3266", func := "clavier/clavierlaw13.KittyAll", spec := "kittyAll", inPlace := ["internal/bytealg.IndexByteString", "internal/abi.NoEscape", "internal/bytealg.MakeNoZero"], unfollowed := true, recurses := true, named := ["clavier/keys.rows", "clavier/utf.sizes", "internal/strconv.uint64pow10", "math/bits.deBruijn32tab", "math/bits.deBruijn64tab"], apart := false, laid := [("math/bits.deBruijn32tab", laid_math_bits_deBruijn32tab), ("math/bits.deBruijn64tab", laid_math_bits_deBruijn64tab), ("internal/strconv.uint64pow10", laid_internal_strconv_uint64pow10), ("clavier/utf.sizes", laid_clavier_utf_sizes), ("clavier/keys.rows", laid_clavier_keys_rows)] }
def KittyAllSaid : Prop := kittyAllRow.holds Tryz.pinned (OpenSpec.ofChange kittyAllSpec)

/-- ITS FALSE NEIGHBOUR: 'it returns false'. Refute it at one input. -/
def kittyAllWrong : ChangeSpec := { name := "kittyAll", fn := fun _ => fun
  | [d1, d2, d3] => { results := [.lit (.bool false)], args := [d1, d2, d3] }
  | _ => none }
def KittyAllWrongFalsely : Prop := kittyAllRow.holds Tryz.pinned (OpenSpec.ofChange kittyAllWrong)

/-- 'clavierlaw13.KittyOne': WHATEVER THE INPUT: true; the input reads as it did. -/
def kittyOneSpec : ChangeSpec := { name := "kittyOne", fn := fun _ => fun
  | [d1, d2] => { results := [.lit (.bool true)], args := [d1, d2] }
  | _ => none }
def kittyOneRow : OpenClaim := { program := "ytdfojkbgdoiglaagreatdoor", sum := "2039537c74c0e27af3fda0618f54b642b825032252a998e572997191be0d3266", func := "clavier/clavierlaw13.KittyOne", spec := "kittyOne", inPlace := ["internal/bytealg.IndexByteString", "internal/abi.NoEscape", "internal/bytealg.MakeNoZero"], unfollowed := true, recurses := true, named := ["clavier/keys.rows", "clavier/utf.sizes", "internal/strconv.uint64pow10", "math/bits.deBruijn32tab", "math/bits.deBruijn64tab"], apart := false, laid := [("math/bits.deBruijn32tab", laid_math_bits_deBruijn32tab), ("math/bits.deBruijn64tab", laid_math_bits_deBruijn64tab), ("internal/strconv.uint64pow10", laid_internal_strconv_uint64pow10), ("clavier/utf.sizes", laid_clavier_utf_sizes), ("clavier/keys.rows", laid_clavier_keys_rows)] }
def KittyOneSaid : Prop := kittyOneRow.holds Tryz.pinned (OpenSpec.ofChange kittyOneSpec)

/-- ITS FALSE NEIGHBOUR: 'it returns false'. Refute it at one input. -/
def kittyOneWrong : ChangeSpec := { name := "kittyOne", fn := fun _ => fun
  | [d1, d2] => { results := [.lit (.bool false)], args := [d1, d2] }
  | _ => none }
def KittyOneWrongFalsely : Prop := kittyOneRow.holds Tryz.pinned (OpenSpec.ofChange kittyOneWrong)

/- THE SECOND FORM. 'bulk': how many values and letters a reading holds, each counted each time it is reached (what is shared counts as often as it is met; a slice's spare places count too). A statement '..UptoSaid' is the law's where the arguments, and the package variables that the reading takes, are together of bulk at most 1048576: NARROWER than '..Said'. Prove '..Said' where nothing that the law and all that it calls make is longer than what came in: it says more and counts as full. Else prove '..UptoSaid'. A law counts once. -/
mutual
def uptoBulk {H : Type} : DataW H → Nat
  | .lit (.string bytes) => bytes.length + 1
  | .lit _ => 1
  | .nil => 1
  | .ptr d => uptoBulk d + 1
  | .slice elems spare => uptoBulkAll elems + uptoBulkAll spare + 1
  | .agg parts => uptoBulkAll parts + 1
  | .iface _ d => uptoBulk d + 1
  | .map entries => uptoBulkEntries entries + 1
  | .held _ => 1
def uptoBulkAll {H : Type} : List (DataW H) → Nat
  | [] => 0
  | d :: r => uptoBulk d + uptoBulkAll r
def uptoBulkEntries {H : Type} : List (Lit × DataW H) → Nat
  | [] => 0
  | x :: r => uptoBulkEntry x + uptoBulkEntries r
def uptoBulkEntry {H : Type} : Lit × DataW H → Nat
  | (.string bytes, d) => bytes.length + uptoBulk d + 1
  | (_, d) => uptoBulk d + 1
 end
def uptoSmall : (H : Type) → List (DataW H) → Bool := fun _ ds => decide (uptoBulkAll ds ≤ 1048576)
def OpenSpec.upto (s : _root_.Go.ChangeSpec) : _root_.Go.OpenSpec := { _root_.Go.OpenSpec.ofChange s with cond := some uptoSmall }

/-- 'clavierlaw13.KittyTells', WHERE WHAT IT READS IS OF BULK AT MOST 1048576: true; the input reads as it did. -/
def kittyTellsUptoRow : OpenClaim := { program := "ytdfojkbgdoiglaagreatdoor", sum := "2039537c74c0e27af3fda0618f54b642b825032252a998e572997191be0d3266", func := "clavier/clavierlaw13.KittyTells", spec := "kittyTells", inPlace := ["internal/bytealg.IndexByteString", "internal/abi.NoEscape", "internal/bytealg.MakeNoZero"], unfollowed := true, recurses := true, named := ["clavier/keys.rows", "clavier/utf.sizes", "internal/strconv.uint64pow10", "math/bits.deBruijn32tab", "math/bits.deBruijn64tab"], apart := false, laid := [("math/bits.deBruijn32tab", laid_math_bits_deBruijn32tab), ("math/bits.deBruijn64tab", laid_math_bits_deBruijn64tab), ("internal/strconv.uint64pow10", laid_internal_strconv_uint64pow10), ("clavier/utf.sizes", laid_clavier_utf_sizes), ("clavier/keys.rows", laid_clavier_keys_rows)], narrowed := true }
def KittyTellsUptoSaid : Prop := kittyTellsUptoRow.holds Tryz.pinned (OpenSpec.upto kittyTellsSpec)

/-- 'clavierlaw13.KittyAll', WHERE WHAT IT READS IS OF BULK AT MOST 1048576: true; the input reads as it did. -/
def kittyAllUptoRow : OpenClaim := { program := "ytdfojkbgdoiglaagreatdoor", sum := "2039537c74c0e27af3fda0618f54b642b825032252a998e572997191be0d3266", func := "clavier/clavierlaw13.KittyAll", spec := "kittyAll", inPlace := ["internal/bytealg.IndexByteString", "internal/abi.NoEscape", "internal/bytealg.MakeNoZero"], unfollowed := true, recurses := true, named := ["clavier/keys.rows", "clavier/utf.sizes", "internal/strconv.uint64pow10", "math/bits.deBruijn32tab", "math/bits.deBruijn64tab"], apart := false, laid := [("math/bits.deBruijn32tab", laid_math_bits_deBruijn32tab), ("math/bits.deBruijn64tab", laid_math_bits_deBruijn64tab), ("internal/strconv.uint64pow10", laid_internal_strconv_uint64pow10), ("clavier/utf.sizes", laid_clavier_utf_sizes), ("clavier/keys.rows", laid_clavier_keys_rows)], narrowed := true }
def KittyAllUptoSaid : Prop := kittyAllUptoRow.holds Tryz.pinned (OpenSpec.upto kittyAllSpec)

/-- 'clavierlaw13.KittyOne', WHERE WHAT IT READS IS OF BULK AT MOST 1048576: true; the input reads as it did. -/
def kittyOneUptoRow : OpenClaim := { program := "ytdfojkbgdoiglaagreatdoor", sum := "2039537c74c0e27af3fda0618f54b642b825032252a998e572997191be0d3266", func := "clavier/clavierlaw13.KittyOne", spec := "kittyOne", inPlace := ["internal/bytealg.IndexByteString", "internal/abi.NoEscape", "internal/bytealg.MakeNoZero"], unfollowed := true, recurses := true, named := ["clavier/keys.rows", "clavier/utf.sizes", "internal/strconv.uint64pow10", "math/bits.deBruijn32tab", "math/bits.deBruijn64tab"], apart := false, laid := [("math/bits.deBruijn32tab", laid_math_bits_deBruijn32tab), ("math/bits.deBruijn64tab", laid_math_bits_deBruijn64tab), ("internal/strconv.uint64pow10", laid_internal_strconv_uint64pow10), ("clavier/utf.sizes", laid_clavier_utf_sizes), ("clavier/keys.rows", laid_clavier_keys_rows)], narrowed := true }
def KittyOneUptoSaid : Prop := kittyOneUptoRow.holds Tryz.pinned (OpenSpec.upto kittyOneSpec)

end Rows
end Go.Proofs.YtdfojkbgdoiglaaGreatDoor

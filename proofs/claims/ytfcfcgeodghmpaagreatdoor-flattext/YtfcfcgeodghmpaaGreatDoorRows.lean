/-
  NARROWER THAN 'FOR EVERY INPUT', by the rows' own cells (each row's printed sentence says how): PrintMay: loops, laid · PrintParts: laid · PrintMarks: loops, laid · FlatMay: laid · FlatAlone: laid · FlatNames: laid · FlatText: laid · FlatMany: laid.
  DERIVED. THE GIVEN ROWS OF THIS SEAT. 8 by the template 'for every input the law returns true; each argument reads behind the call as it read before'; 0 by the template 'total and deterministic' (their statements: YtfcfcgeodghmpaaGreatDoorTotals.lean).
  GIVEN WITH THE SEED: the statements are not yours to turn. If you find one false, say at which input.
  Laid BY PROGRAM, IN A SANDBOX (cutbox-rows.mjs): the forced cells as the released guide's own fill.sh prints them over the translation 1d1c4844cff34dd0… (all of the seat's roots in one cut). By AI agents, Wed Nov 11 2026. No macro, syntax, notation, axiom, sorry.
-/
import Derived.Test.YtfcfcgeodghmpaaGreatDoorChecked
import GoSem.PinnedTables
import GoSem.Claim
import GoSem.ClaimJoined
import GoSem.ClaimMapViews
import Derived.JoinedTies
import Derived.KernelRfl
namespace Go.Proofs.YtfcfcgeodghmpaaGreatDoor
/- THE CELL 'sum', in the pinned program and in every row, IS THE sha256 OF THE DUMP (.gsa) THAT YtfcfcgeodghmpaaGreatDoorProg.lean LOADS. Nothing in Lean hashes anything: it is a label: what it is worth is what the hold of that sum in a sandbox is worth. -/
noncomputable def Tryz.pinned : Pinned := { name := "ytfcfcgeodghmpaagreatdoor", sum := "1d1c4844cff34dd028552772110313a2b8ace2164c47b1e6762c599f8c530666", checked := Tryz.checked }
namespace Rows
def none {H : Type} : Left H := { results := [], args := [] }

/- WHAT THE LISTED PACKAGE-LEVEL VARIABLES READ AS WHEN THE CALL BEGINS. Each datum BY PROGRAM (the guide's laid-datum.mjs) off the statement by which the dump's own 'gosem.cut.vars' lays the variable. In a bare row this is a premise. The card (YtfcfcgeodghmpaaGreatDoorCards.lean) ties it to the program's text. -/
def laid_math_bits_deBruijn32tab {H : Type} : DataW H := .agg [.lit (.int .u8 0), .lit (.int .u8 1), .lit (.int .u8 28), .lit (.int .u8 2), .lit (.int .u8 29), .lit (.int .u8 14), .lit (.int .u8 24), .lit (.int .u8 3), .lit (.int .u8 30), .lit (.int .u8 22), .lit (.int .u8 20), .lit (.int .u8 15), .lit (.int .u8 25), .lit (.int .u8 17), .lit (.int .u8 4), .lit (.int .u8 8), .lit (.int .u8 31), .lit (.int .u8 27), .lit (.int .u8 13), .lit (.int .u8 23), .lit (.int .u8 21), .lit (.int .u8 19), .lit (.int .u8 16), .lit (.int .u8 7), .lit (.int .u8 26), .lit (.int .u8 12), .lit (.int .u8 18), .lit (.int .u8 6), .lit (.int .u8 11), .lit (.int .u8 5), .lit (.int .u8 10), .lit (.int .u8 9)]
def laid_math_bits_deBruijn64tab {H : Type} : DataW H := .agg [.lit (.int .u8 0), .lit (.int .u8 1), .lit (.int .u8 56), .lit (.int .u8 2), .lit (.int .u8 57), .lit (.int .u8 49), .lit (.int .u8 28), .lit (.int .u8 3), .lit (.int .u8 61), .lit (.int .u8 58), .lit (.int .u8 42), .lit (.int .u8 50), .lit (.int .u8 38), .lit (.int .u8 29), .lit (.int .u8 17), .lit (.int .u8 4), .lit (.int .u8 62), .lit (.int .u8 47), .lit (.int .u8 59), .lit (.int .u8 36), .lit (.int .u8 45), .lit (.int .u8 43), .lit (.int .u8 51), .lit (.int .u8 22), .lit (.int .u8 53), .lit (.int .u8 39), .lit (.int .u8 33), .lit (.int .u8 30), .lit (.int .u8 24), .lit (.int .u8 18), .lit (.int .u8 12), .lit (.int .u8 5), .lit (.int .u8 63), .lit (.int .u8 55), .lit (.int .u8 48), .lit (.int .u8 27), .lit (.int .u8 60), .lit (.int .u8 41), .lit (.int .u8 37), .lit (.int .u8 16), .lit (.int .u8 46), .lit (.int .u8 35), .lit (.int .u8 44), .lit (.int .u8 21), .lit (.int .u8 52), .lit (.int .u8 32), .lit (.int .u8 23), .lit (.int .u8 11), .lit (.int .u8 54), .lit (.int .u8 26), .lit (.int .u8 40), .lit (.int .u8 15), .lit (.int .u8 34), .lit (.int .u8 20), .lit (.int .u8 31), .lit (.int .u8 10), .lit (.int .u8 25), .lit (.int .u8 14), .lit (.int .u8 19), .lit (.int .u8 9), .lit (.int .u8 13), .lit (.int .u8 8), .lit (.int .u8 7), .lit (.int .u8 6)]
def laid_internal_strconv_uint64pow10 {H : Type} : DataW H := .agg [.lit (.int .u64 1), .lit (.int .u64 10), .lit (.int .u64 100), .lit (.int .u64 1000), .lit (.int .u64 10000), .lit (.int .u64 100000), .lit (.int .u64 1000000), .lit (.int .u64 10000000), .lit (.int .u64 100000000), .lit (.int .u64 1000000000), .lit (.int .u64 10000000000), .lit (.int .u64 100000000000), .lit (.int .u64 1000000000000), .lit (.int .u64 10000000000000), .lit (.int .u64 100000000000000), .lit (.int .u64 1000000000000000), .lit (.int .u64 10000000000000000), .lit (.int .u64 100000000000000000), .lit (.int .u64 1000000000000000000), .lit (.int .u64 10000000000000000000)]
def laid_unicode_utf8_acceptRanges {H : Type} : DataW H := .agg [.agg [.lit (.int .u8 128), .lit (.int .u8 191)], .agg [.lit (.int .u8 160), .lit (.int .u8 191)], .agg [.lit (.int .u8 128), .lit (.int .u8 159)], .agg [.lit (.int .u8 144), .lit (.int .u8 191)], .agg [.lit (.int .u8 128), .lit (.int .u8 143)], .agg [.lit (.int .u8 0), .lit (.int .u8 0)], .agg [.lit (.int .u8 0), .lit (.int .u8 0)], .agg [.lit (.int .u8 0), .lit (.int .u8 0)], .agg [.lit (.int .u8 0), .lit (.int .u8 0)], .agg [.lit (.int .u8 0), .lit (.int .u8 0)], .agg [.lit (.int .u8 0), .lit (.int .u8 0)], .agg [.lit (.int .u8 0), .lit (.int .u8 0)], .agg [.lit (.int .u8 0), .lit (.int .u8 0)], .agg [.lit (.int .u8 0), .lit (.int .u8 0)], .agg [.lit (.int .u8 0), .lit (.int .u8 0)], .agg [.lit (.int .u8 0), .lit (.int .u8 0)]]
def laid_exegete_print_forms {H : Type} : DataW H := .agg [.agg [.lit (.int .i64 3), .lit (.string []), .lit (.string [])], .agg [.lit (.int .i64 3), .lit (.string []), .lit (.string [])], .agg [.lit (.int .i64 3), .lit (.string []), .lit (.string [])], .agg [.lit (.int .i64 3), .lit (.string []), .lit (.string [])], .agg [.lit (.int .i64 1), .lit (.string [32]), .lit (.string [])], .agg [.lit (.int .i64 0), .lit (.string [32, 124, 32]), .lit (.string [])], .agg [.lit (.int .i64 2), .lit (.string []), .lit (.string [42])], .agg [.lit (.int .i64 2), .lit (.string []), .lit (.string [43])], .agg [.lit (.int .i64 2), .lit (.string []), .lit (.string [63])]]
def laid_exegete_print_marks {H : Type} : DataW H := .agg [.agg [.lit (.int .i64 1), .lit (.string [108, 111, 110, 103])], .agg [.lit (.int .i64 2), .lit (.string [114, 101, 115])], .agg [.lit (.int .i64 4), .lit (.string [111, 102, 102])], .agg [.lit (.int .i64 8), .lit (.string [98, 108, 111, 99, 107])], .agg [.lit (.int .i64 16), .lit (.string [97, 108, 105, 103, 110])], .agg [.lit (.int .i64 32), .lit (.string [115, 121, 110, 99])]]
/-- One of Go's own tables, pinned by name: the form's constant. -/
def laid_unicode_utf8_first : DataW Unit := Go.Pinned.utf8First

/-- 'exegetelaw07.PrintMay': WHATEVER THE INPUT: true; the input reads as it did. -/
def printMaySpec : ChangeSpec := { name := "printMay", fn := fun _ => fun
  | [d] => { results := [.lit (.bool true)], args := [d] }
  | _ => none }
def printMayRow : OpenClaim := { program := "ytfcfcgeodghmpaagreatdoor", sum := "1d1c4844cff34dd028552772110313a2b8ace2164c47b1e6762c599f8c530666", func := "exegete/exegetelaw07.PrintMay", spec := "printMay", inPlace := ["internal/bytealg.IndexByteString", "internal/bytealg.IndexString", "internal/abi.NoEscape"], unfollowed := true, recurses := true, named := ["unicode/utf8.first", "unicode/utf8.acceptRanges", "internal/strconv.uint64pow10", "math/bits.deBruijn32tab", "math/bits.deBruijn64tab", "exegete/print.marks", "exegete/print.forms", "internal/bytealg.MaxLen"], loops := true, plainKeys := false, apart := false, laid := [("math/bits.deBruijn32tab", laid_math_bits_deBruijn32tab), ("math/bits.deBruijn64tab", laid_math_bits_deBruijn64tab), ("internal/strconv.uint64pow10", laid_internal_strconv_uint64pow10), ("unicode/utf8.acceptRanges", laid_unicode_utf8_acceptRanges), ("exegete/print.forms", laid_exegete_print_forms), ("exegete/print.marks", laid_exegete_print_marks), ("unicode/utf8.first", laid_unicode_utf8_first)] }
def PrintMaySaid : Prop := printMayRow.holds Tryz.pinned (OpenSpec.ofChange printMaySpec)

/-- ITS FALSE NEIGHBOUR: 'it returns false'. Refute it at one input. -/
def printMayWrong : ChangeSpec := { name := "printMay", fn := fun _ => fun
  | [d] => { results := [.lit (.bool false)], args := [d] }
  | _ => none }
def PrintMayWrongFalsely : Prop := printMayRow.holds Tryz.pinned (OpenSpec.ofChange printMayWrong)

/-- 'exegetelaw07.PrintParts': WHATEVER THE INPUT: true; the input reads as it did. -/
def printPartsSpec : ChangeSpec := { name := "printParts", fn := fun _ => fun
  | [d] => { results := [.lit (.bool true)], args := [d] }
  | _ => none }
def printPartsRow : OpenClaim := { program := "ytfcfcgeodghmpaagreatdoor", sum := "1d1c4844cff34dd028552772110313a2b8ace2164c47b1e6762c599f8c530666", func := "exegete/exegetelaw07.PrintParts", spec := "printParts", inPlace := ["internal/bytealg.IndexByteString", "internal/bytealg.IndexString", "internal/abi.NoEscape"], unfollowed := true, recurses := true, named := ["unicode/utf8.first", "unicode/utf8.acceptRanges", "internal/strconv.uint64pow10", "math/bits.deBruijn32tab", "math/bits.deBruijn64tab", "exegete/print.marks", "exegete/print.forms", "internal/bytealg.MaxLen"], plainKeys := false, apart := false, laid := [("math/bits.deBruijn32tab", laid_math_bits_deBruijn32tab), ("math/bits.deBruijn64tab", laid_math_bits_deBruijn64tab), ("internal/strconv.uint64pow10", laid_internal_strconv_uint64pow10), ("unicode/utf8.acceptRanges", laid_unicode_utf8_acceptRanges), ("exegete/print.forms", laid_exegete_print_forms), ("exegete/print.marks", laid_exegete_print_marks), ("unicode/utf8.first", laid_unicode_utf8_first)] }
def PrintPartsSaid : Prop := printPartsRow.holds Tryz.pinned (OpenSpec.ofChange printPartsSpec)

/-- ITS FALSE NEIGHBOUR: 'it returns false'. Refute it at one input. -/
def printPartsWrong : ChangeSpec := { name := "printParts", fn := fun _ => fun
  | [d] => { results := [.lit (.bool false)], args := [d] }
  | _ => none }
def PrintPartsWrongFalsely : Prop := printPartsRow.holds Tryz.pinned (OpenSpec.ofChange printPartsWrong)

/-- 'exegetelaw07.PrintMarks': WHATEVER THE INPUT: true; the input reads as it did. -/
def printMarksSpec : ChangeSpec := { name := "printMarks", fn := fun _ => fun
  | [d1, d2, d3] => { results := [.lit (.bool true)], args := [d1, d2, d3] }
  | _ => none }
def printMarksRow : OpenClaim := { program := "ytfcfcgeodghmpaagreatdoor", sum := "1d1c4844cff34dd028552772110313a2b8ace2164c47b1e6762c599f8c530666", func := "exegete/exegetelaw07.PrintMarks", spec := "printMarks", inPlace := ["internal/bytealg.IndexByteString", "internal/bytealg.IndexString", "internal/abi.NoEscape"], unfollowed := true, recurses := true, named := ["unicode/utf8.first", "unicode/utf8.acceptRanges", "internal/strconv.uint64pow10", "math/bits.deBruijn32tab", "math/bits.deBruijn64tab", "exegete/print.marks", "exegete/print.forms", "internal/bytealg.MaxLen"], loops := true, plainKeys := false, apart := false, laid := [("math/bits.deBruijn32tab", laid_math_bits_deBruijn32tab), ("math/bits.deBruijn64tab", laid_math_bits_deBruijn64tab), ("internal/strconv.uint64pow10", laid_internal_strconv_uint64pow10), ("unicode/utf8.acceptRanges", laid_unicode_utf8_acceptRanges), ("exegete/print.forms", laid_exegete_print_forms), ("exegete/print.marks", laid_exegete_print_marks), ("unicode/utf8.first", laid_unicode_utf8_first)] }
def PrintMarksSaid : Prop := printMarksRow.holds Tryz.pinned (OpenSpec.ofChange printMarksSpec)

/-- ITS FALSE NEIGHBOUR: 'it returns false'. Refute it at one input. -/
def printMarksWrong : ChangeSpec := { name := "printMarks", fn := fun _ => fun
  | [d1, d2, d3] => { results := [.lit (.bool false)], args := [d1, d2, d3] }
  | _ => none }
def PrintMarksWrongFalsely : Prop := printMarksRow.holds Tryz.pinned (OpenSpec.ofChange printMarksWrong)

/-- 'exegetelaw08.FlatMay': WHATEVER THE INPUT: true; the input reads as it did. -/
def flatMaySpec : ChangeSpec := { name := "flatMay", fn := fun _ => fun
  | [d] => { results := [.lit (.bool true)], args := [d] }
  | _ => none }
def flatMayRow : OpenClaim := { program := "ytfcfcgeodghmpaagreatdoor", sum := "1d1c4844cff34dd028552772110313a2b8ace2164c47b1e6762c599f8c530666", func := "exegete/exegetelaw08.FlatMay", spec := "flatMay", inPlace := ["internal/bytealg.IndexByteString", "internal/bytealg.IndexString"], unfollowed := true, recurses := true, named := ["unicode/utf8.first", "unicode/utf8.acceptRanges", "internal/bytealg.MaxLen"], plainKeys := false, apart := false, laid := [("unicode/utf8.acceptRanges", laid_unicode_utf8_acceptRanges), ("unicode/utf8.first", laid_unicode_utf8_first)] }
def FlatMaySaid : Prop := flatMayRow.holds Tryz.pinned (OpenSpec.ofChange flatMaySpec)

/-- ITS FALSE NEIGHBOUR: 'it returns false'. Refute it at one input. -/
def flatMayWrong : ChangeSpec := { name := "flatMay", fn := fun _ => fun
  | [d] => { results := [.lit (.bool false)], args := [d] }
  | _ => none }
def FlatMayWrongFalsely : Prop := flatMayRow.holds Tryz.pinned (OpenSpec.ofChange flatMayWrong)

/-- 'exegetelaw08.FlatAlone': WHATEVER THE INPUT: true; the input reads as it did. -/
def flatAloneSpec : ChangeSpec := { name := "flatAlone", fn := fun _ => fun
  | [d] => { results := [.lit (.bool true)], args := [d] }
  | _ => none }
def flatAloneRow : OpenClaim := { program := "ytfcfcgeodghmpaagreatdoor", sum := "1d1c4844cff34dd028552772110313a2b8ace2164c47b1e6762c599f8c530666", func := "exegete/exegetelaw08.FlatAlone", spec := "flatAlone", inPlace := ["internal/bytealg.IndexByteString", "internal/bytealg.IndexString"], unfollowed := true, recurses := true, named := ["unicode/utf8.first", "unicode/utf8.acceptRanges", "internal/bytealg.MaxLen"], plainKeys := false, apart := false, laid := [("unicode/utf8.acceptRanges", laid_unicode_utf8_acceptRanges), ("unicode/utf8.first", laid_unicode_utf8_first)] }
def FlatAloneSaid : Prop := flatAloneRow.holds Tryz.pinned (OpenSpec.ofChange flatAloneSpec)

/-- ITS FALSE NEIGHBOUR: 'it returns false'. Refute it at one input. -/
def flatAloneWrong : ChangeSpec := { name := "flatAlone", fn := fun _ => fun
  | [d] => { results := [.lit (.bool false)], args := [d] }
  | _ => none }
def FlatAloneWrongFalsely : Prop := flatAloneRow.holds Tryz.pinned (OpenSpec.ofChange flatAloneWrong)

/-- 'exegetelaw08.FlatNames': WHATEVER THE INPUT: true; the input reads as it did. -/
def flatNamesSpec : ChangeSpec := { name := "flatNames", fn := fun _ => fun
  | [d] => { results := [.lit (.bool true)], args := [d] }
  | _ => none }
def flatNamesRow : OpenClaim := { program := "ytfcfcgeodghmpaagreatdoor", sum := "1d1c4844cff34dd028552772110313a2b8ace2164c47b1e6762c599f8c530666", func := "exegete/exegetelaw08.FlatNames", spec := "flatNames", inPlace := ["internal/bytealg.IndexByteString", "internal/bytealg.IndexString"], unfollowed := true, recurses := true, named := ["unicode/utf8.first", "unicode/utf8.acceptRanges", "internal/bytealg.MaxLen"], plainKeys := false, apart := false, laid := [("unicode/utf8.acceptRanges", laid_unicode_utf8_acceptRanges), ("unicode/utf8.first", laid_unicode_utf8_first)] }
def FlatNamesSaid : Prop := flatNamesRow.holds Tryz.pinned (OpenSpec.ofChange flatNamesSpec)

/-- ITS FALSE NEIGHBOUR: 'it returns false'. Refute it at one input. -/
def flatNamesWrong : ChangeSpec := { name := "flatNames", fn := fun _ => fun
  | [d] => { results := [.lit (.bool false)], args := [d] }
  | _ => none }
def FlatNamesWrongFalsely : Prop := flatNamesRow.holds Tryz.pinned (OpenSpec.ofChange flatNamesWrong)

/-- 'exegetelaw08.FlatText': WHATEVER THE INPUT: true; the input reads as it did. -/
def flatTextSpec : ChangeSpec := { name := "flatText", fn := fun _ => fun
  | [d1, d2] => { results := [.lit (.bool true)], args := [d1, d2] }
  | _ => none }
def flatTextRow : OpenClaim := { program := "ytfcfcgeodghmpaagreatdoor", sum := "1d1c4844cff34dd028552772110313a2b8ace2164c47b1e6762c599f8c530666", func := "exegete/exegetelaw08.FlatText", spec := "flatText", inPlace := ["internal/bytealg.IndexByteString", "internal/bytealg.IndexString"], unfollowed := true, recurses := true, named := ["unicode/utf8.first", "unicode/utf8.acceptRanges", "internal/bytealg.MaxLen"], plainKeys := false, apart := false, laid := [("unicode/utf8.acceptRanges", laid_unicode_utf8_acceptRanges), ("unicode/utf8.first", laid_unicode_utf8_first)] }
def FlatTextSaid : Prop := flatTextRow.holds Tryz.pinned (OpenSpec.ofChange flatTextSpec)

/-- ITS FALSE NEIGHBOUR: 'it returns false'. Refute it at one input. -/
def flatTextWrong : ChangeSpec := { name := "flatText", fn := fun _ => fun
  | [d1, d2] => { results := [.lit (.bool false)], args := [d1, d2] }
  | _ => none }
def FlatTextWrongFalsely : Prop := flatTextRow.holds Tryz.pinned (OpenSpec.ofChange flatTextWrong)

/-- 'exegetelaw08.FlatMany': WHATEVER THE INPUT: true; the input reads as it did. -/
def flatManySpec : ChangeSpec := { name := "flatMany", fn := fun _ => fun
  | [d] => { results := [.lit (.bool true)], args := [d] }
  | _ => none }
def flatManyRow : OpenClaim := { program := "ytfcfcgeodghmpaagreatdoor", sum := "1d1c4844cff34dd028552772110313a2b8ace2164c47b1e6762c599f8c530666", func := "exegete/exegetelaw08.FlatMany", spec := "flatMany", inPlace := ["internal/bytealg.IndexByteString", "internal/bytealg.IndexString"], unfollowed := true, recurses := true, named := ["unicode/utf8.first", "unicode/utf8.acceptRanges", "internal/bytealg.MaxLen"], plainKeys := false, apart := false, laid := [("unicode/utf8.acceptRanges", laid_unicode_utf8_acceptRanges), ("unicode/utf8.first", laid_unicode_utf8_first)] }
def FlatManySaid : Prop := flatManyRow.holds Tryz.pinned (OpenSpec.ofChange flatManySpec)

/-- ITS FALSE NEIGHBOUR: 'it returns false'. Refute it at one input. -/
def flatManyWrong : ChangeSpec := { name := "flatMany", fn := fun _ => fun
  | [d] => { results := [.lit (.bool false)], args := [d] }
  | _ => none }
def FlatManyWrongFalsely : Prop := flatManyRow.holds Tryz.pinned (OpenSpec.ofChange flatManyWrong)

/- THE SECOND FORM. 'bulk': how many values and letters a reading holds, each counted each time it is reached (what is shared counts as often as it is met; a slice's spare places count too). A statement '..UptoSaid' is the law's where the arguments, and the package variables that the reading takes, are together of bulk at most 1048576: NARROWER than '..Said'. Prove '..Said' where nothing that the law and all that it calls make is longer than what came in: it says more and counts as full. Else prove '..UptoSaid'. A law counts once. -/
mutual
def uptoBulk {H : Type} : DataW H → Nat
  | .lit (.string bytes) => bytes.length + 1
  | .lit _ => 1
  | .nil => 1
  | .ptr d => uptoBulk d + 1
  | .slice elems spare => uptoBulkAll elems + uptoBulkAll spare + 1
  | .agg parts => uptoBulkAll parts + 1
  | .iface _ d => uptoBulk d + 1
  | .map entries => uptoBulkEntries entries + 1
  | .held _ => 1
def uptoBulkAll {H : Type} : List (DataW H) → Nat
  | [] => 0
  | d :: r => uptoBulk d + uptoBulkAll r
def uptoBulkEntries {H : Type} : List (Lit × DataW H) → Nat
  | [] => 0
  | x :: r => uptoBulkEntry x + uptoBulkEntries r
def uptoBulkEntry {H : Type} : Lit × DataW H → Nat
  | (.string bytes, d) => bytes.length + uptoBulk d + 1
  | (_, d) => uptoBulk d + 1
 end
def uptoSmall : (H : Type) → List (DataW H) → Bool := fun _ ds => decide (uptoBulkAll ds ≤ 1048576)
def OpenSpec.upto (s : _root_.Go.ChangeSpec) : _root_.Go.OpenSpec := { _root_.Go.OpenSpec.ofChange s with cond := some uptoSmall }

/-- 'exegetelaw07.PrintMay', WHERE WHAT IT READS IS OF BULK AT MOST 1048576: true; the input reads as it did. -/
def printMayUptoRow : OpenClaim := { program := "ytfcfcgeodghmpaagreatdoor", sum := "1d1c4844cff34dd028552772110313a2b8ace2164c47b1e6762c599f8c530666", func := "exegete/exegetelaw07.PrintMay", spec := "printMay", inPlace := ["internal/bytealg.IndexByteString", "internal/bytealg.IndexString", "internal/abi.NoEscape"], unfollowed := true, recurses := true, named := ["unicode/utf8.first", "unicode/utf8.acceptRanges", "internal/strconv.uint64pow10", "math/bits.deBruijn32tab", "math/bits.deBruijn64tab", "exegete/print.marks", "exegete/print.forms", "internal/bytealg.MaxLen"], loops := true, plainKeys := false, apart := false, laid := [("math/bits.deBruijn32tab", laid_math_bits_deBruijn32tab), ("math/bits.deBruijn64tab", laid_math_bits_deBruijn64tab), ("internal/strconv.uint64pow10", laid_internal_strconv_uint64pow10), ("unicode/utf8.acceptRanges", laid_unicode_utf8_acceptRanges), ("exegete/print.forms", laid_exegete_print_forms), ("exegete/print.marks", laid_exegete_print_marks), ("unicode/utf8.first", laid_unicode_utf8_first)], narrowed := true }
def PrintMayUptoSaid : Prop := printMayUptoRow.holds Tryz.pinned (OpenSpec.upto printMaySpec)

/-- 'exegetelaw07.PrintParts', WHERE WHAT IT READS IS OF BULK AT MOST 1048576: true; the input reads as it did. -/
def printPartsUptoRow : OpenClaim := { program := "ytfcfcgeodghmpaagreatdoor", sum := "1d1c4844cff34dd028552772110313a2b8ace2164c47b1e6762c599f8c530666", func := "exegete/exegetelaw07.PrintParts", spec := "printParts", inPlace := ["internal/bytealg.IndexByteString", "internal/bytealg.IndexString", "internal/abi.NoEscape"], unfollowed := true, recurses := true, named := ["unicode/utf8.first", "unicode/utf8.acceptRanges", "internal/strconv.uint64pow10", "math/bits.deBruijn32tab", "math/bits.deBruijn64tab", "exegete/print.marks", "exegete/print.forms", "internal/bytealg.MaxLen"], plainKeys := false, apart := false, laid := [("math/bits.deBruijn32tab", laid_math_bits_deBruijn32tab), ("math/bits.deBruijn64tab", laid_math_bits_deBruijn64tab), ("internal/strconv.uint64pow10", laid_internal_strconv_uint64pow10), ("unicode/utf8.acceptRanges", laid_unicode_utf8_acceptRanges), ("exegete/print.forms", laid_exegete_print_forms), ("exegete/print.marks", laid_exegete_print_marks), ("unicode/utf8.first", laid_unicode_utf8_first)], narrowed := true }
def PrintPartsUptoSaid : Prop := printPartsUptoRow.holds Tryz.pinned (OpenSpec.upto printPartsSpec)

/-- 'exegetelaw07.PrintMarks', WHERE WHAT IT READS IS OF BULK AT MOST 1048576: true; the input reads as it did. -/
def printMarksUptoRow : OpenClaim := { program := "ytfcfcgeodghmpaagreatdoor", sum := "1d1c4844cff34dd028552772110313a2b8ace2164c47b1e6762c599f8c530666", func := "exegete/exegetelaw07.PrintMarks", spec := "printMarks", inPlace := ["internal/bytealg.IndexByteString", "internal/bytealg.IndexString", "internal/abi.NoEscape"], unfollowed := true, recurses := true, named := ["unicode/utf8.first", "unicode/utf8.acceptRanges", "internal/strconv.uint64pow10", "math/bits.deBruijn32tab", "math/bits.deBruijn64tab", "exegete/print.marks", "exegete/print.forms", "internal/bytealg.MaxLen"], loops := true, plainKeys := false, apart := false, laid := [("math/bits.deBruijn32tab", laid_math_bits_deBruijn32tab), ("math/bits.deBruijn64tab", laid_math_bits_deBruijn64tab), ("internal/strconv.uint64pow10", laid_internal_strconv_uint64pow10), ("unicode/utf8.acceptRanges", laid_unicode_utf8_acceptRanges), ("exegete/print.forms", laid_exegete_print_forms), ("exegete/print.marks", laid_exegete_print_marks), ("unicode/utf8.first", laid_unicode_utf8_first)], narrowed := true }
def PrintMarksUptoSaid : Prop := printMarksUptoRow.holds Tryz.pinned (OpenSpec.upto printMarksSpec)

/-- 'exegetelaw08.FlatMay', WHERE WHAT IT READS IS OF BULK AT MOST 1048576: true; the input reads as it did. -/
def flatMayUptoRow : OpenClaim := { program := "ytfcfcgeodghmpaagreatdoor", sum := "1d1c4844cff34dd028552772110313a2b8ace2164c47b1e6762c599f8c530666", func := "exegete/exegetelaw08.FlatMay", spec := "flatMay", inPlace := ["internal/bytealg.IndexByteString", "internal/bytealg.IndexString"], unfollowed := true, recurses := true, named := ["unicode/utf8.first", "unicode/utf8.acceptRanges", "internal/bytealg.MaxLen"], plainKeys := false, apart := false, laid := [("unicode/utf8.acceptRanges", laid_unicode_utf8_acceptRanges), ("unicode/utf8.first", laid_unicode_utf8_first)], narrowed := true }
def FlatMayUptoSaid : Prop := flatMayUptoRow.holds Tryz.pinned (OpenSpec.upto flatMaySpec)

/-- 'exegetelaw08.FlatAlone', WHERE WHAT IT READS IS OF BULK AT MOST 1048576: true; the input reads as it did. -/
def flatAloneUptoRow : OpenClaim := { program := "ytfcfcgeodghmpaagreatdoor", sum := "1d1c4844cff34dd028552772110313a2b8ace2164c47b1e6762c599f8c530666", func := "exegete/exegetelaw08.FlatAlone", spec := "flatAlone", inPlace := ["internal/bytealg.IndexByteString", "internal/bytealg.IndexString"], unfollowed := true, recurses := true, named := ["unicode/utf8.first", "unicode/utf8.acceptRanges", "internal/bytealg.MaxLen"], plainKeys := false, apart := false, laid := [("unicode/utf8.acceptRanges", laid_unicode_utf8_acceptRanges), ("unicode/utf8.first", laid_unicode_utf8_first)], narrowed := true }
def FlatAloneUptoSaid : Prop := flatAloneUptoRow.holds Tryz.pinned (OpenSpec.upto flatAloneSpec)

/-- 'exegetelaw08.FlatNames', WHERE WHAT IT READS IS OF BULK AT MOST 1048576: true; the input reads as it did. -/
def flatNamesUptoRow : OpenClaim := { program := "ytfcfcgeodghmpaagreatdoor", sum := "1d1c4844cff34dd028552772110313a2b8ace2164c47b1e6762c599f8c530666", func := "exegete/exegetelaw08.FlatNames", spec := "flatNames", inPlace := ["internal/bytealg.IndexByteString", "internal/bytealg.IndexString"], unfollowed := true, recurses := true, named := ["unicode/utf8.first", "unicode/utf8.acceptRanges", "internal/bytealg.MaxLen"], plainKeys := false, apart := false, laid := [("unicode/utf8.acceptRanges", laid_unicode_utf8_acceptRanges), ("unicode/utf8.first", laid_unicode_utf8_first)], narrowed := true }
def FlatNamesUptoSaid : Prop := flatNamesUptoRow.holds Tryz.pinned (OpenSpec.upto flatNamesSpec)

/-- 'exegetelaw08.FlatText', WHERE WHAT IT READS IS OF BULK AT MOST 1048576: true; the input reads as it did. -/
def flatTextUptoRow : OpenClaim := { program := "ytfcfcgeodghmpaagreatdoor", sum := "1d1c4844cff34dd028552772110313a2b8ace2164c47b1e6762c599f8c530666", func := "exegete/exegetelaw08.FlatText", spec := "flatText", inPlace := ["internal/bytealg.IndexByteString", "internal/bytealg.IndexString"], unfollowed := true, recurses := true, named := ["unicode/utf8.first", "unicode/utf8.acceptRanges", "internal/bytealg.MaxLen"], plainKeys := false, apart := false, laid := [("unicode/utf8.acceptRanges", laid_unicode_utf8_acceptRanges), ("unicode/utf8.first", laid_unicode_utf8_first)], narrowed := true }
def FlatTextUptoSaid : Prop := flatTextUptoRow.holds Tryz.pinned (OpenSpec.upto flatTextSpec)

/-- 'exegetelaw08.FlatMany', WHERE WHAT IT READS IS OF BULK AT MOST 1048576: true; the input reads as it did. -/
def flatManyUptoRow : OpenClaim := { program := "ytfcfcgeodghmpaagreatdoor", sum := "1d1c4844cff34dd028552772110313a2b8ace2164c47b1e6762c599f8c530666", func := "exegete/exegetelaw08.FlatMany", spec := "flatMany", inPlace := ["internal/bytealg.IndexByteString", "internal/bytealg.IndexString"], unfollowed := true, recurses := true, named := ["unicode/utf8.first", "unicode/utf8.acceptRanges", "internal/bytealg.MaxLen"], plainKeys := false, apart := false, laid := [("unicode/utf8.acceptRanges", laid_unicode_utf8_acceptRanges), ("unicode/utf8.first", laid_unicode_utf8_first)], narrowed := true }
def FlatManyUptoSaid : Prop := flatManyUptoRow.holds Tryz.pinned (OpenSpec.upto flatManySpec)

end Rows
end Go.Proofs.YtfcfcgeodghmpaaGreatDoor

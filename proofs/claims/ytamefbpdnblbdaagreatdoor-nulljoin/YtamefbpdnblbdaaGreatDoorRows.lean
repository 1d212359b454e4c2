/-
  NARROWER THAN 'FOR EVERY INPUT', by the rows' own cells (each row's printed sentence says how): FlatMay: laid · NullTells: laid · NullLeast: laid · NullMore: laid · NullLefts: laid · NullJoin: laid.
  DERIVED. THE GIVEN ROWS OF THIS SEAT. 6 by the template 'for every input the law returns true; each argument reads behind the call as it read before'; 0 by the template 'total and deterministic' (their statements: YtamefbpdnblbdaaGreatDoorTotals.lean).
  GIVEN WITH THE SEED: the statements are not yours to turn. If you find one false, say at which input.
  Laid BY PROGRAM, IN A SANDBOX (cutbox-rows.mjs): the forced cells as the released guide's own fill.sh prints them over the translation e539a7603cb889a3… (all of the seat's roots in one cut). By AI agents, Wed Nov 11 2026. No macro, syntax, notation, axiom, sorry.
-/
import Derived.Test.YtamefbpdnblbdaaGreatDoorChecked
import GoSem.PinnedTables
import GoSem.Claim
import GoSem.ClaimJoined
import GoSem.ClaimMapViews
import Derived.JoinedTies
import Derived.KernelRfl
namespace Go.Proofs.YtamefbpdnblbdaaGreatDoor
/- THE CELL 'sum', in the pinned program and in every row, IS THE sha256 OF THE DUMP (.gsa) THAT YtamefbpdnblbdaaGreatDoorProg.lean LOADS. Nothing in Lean hashes anything: it is a label: what it is worth is what the hold of that sum in a sandbox is worth. -/
noncomputable def Tryz.pinned : Pinned := { name := "ytamefbpdnblbdaagreatdoor", sum := "e539a7603cb889a361e73736dc847a64baf1617daf2d9a1ac5a67c882058e092", checked := Tryz.checked }
namespace Rows
def none {H : Type} : Left H := { results := [], args := [] }

/- WHAT THE LISTED PACKAGE-LEVEL VARIABLES READ AS WHEN THE CALL BEGINS. Each datum BY PROGRAM (the guide's laid-datum.mjs) off the statement by which the dump's own 'gosem.cut.vars' lays the variable. In a bare row this is a premise. The card (YtamefbpdnblbdaaGreatDoorCards.lean) ties it to the program's text. -/
def laid_unicode_utf8_acceptRanges {H : Type} : DataW H := .agg [.agg [.lit (.int .u8 128), .lit (.int .u8 191)], .agg [.lit (.int .u8 160), .lit (.int .u8 191)], .agg [.lit (.int .u8 128), .lit (.int .u8 159)], .agg [.lit (.int .u8 144), .lit (.int .u8 191)], .agg [.lit (.int .u8 128), .lit (.int .u8 143)], .agg [.lit (.int .u8 0), .lit (.int .u8 0)], .agg [.lit (.int .u8 0), .lit (.int .u8 0)], .agg [.lit (.int .u8 0), .lit (.int .u8 0)], .agg [.lit (.int .u8 0), .lit (.int .u8 0)], .agg [.lit (.int .u8 0), .lit (.int .u8 0)], .agg [.lit (.int .u8 0), .lit (.int .u8 0)], .agg [.lit (.int .u8 0), .lit (.int .u8 0)], .agg [.lit (.int .u8 0), .lit (.int .u8 0)], .agg [.lit (.int .u8 0), .lit (.int .u8 0)], .agg [.lit (.int .u8 0), .lit (.int .u8 0)], .agg [.lit (.int .u8 0), .lit (.int .u8 0)]]
/-- One of Go's own tables, pinned by name: the form's constant. -/
def laid_unicode_utf8_first : DataW Unit := Go.Pinned.utf8First

/-- 'exegetelaw08.FlatMay': WHATEVER THE INPUT: true; the input reads as it did. -/
def flatMaySpec : ChangeSpec := { name := "flatMay", fn := fun _ => fun
  | [d] => { results := [.lit (.bool true)], args := [d] }
  | _ => none }
def flatMayRow : OpenClaim := { program := "ytamefbpdnblbdaagreatdoor", sum := "e539a7603cb889a361e73736dc847a64baf1617daf2d9a1ac5a67c882058e092", func := "exegete/exegetelaw08.FlatMay", spec := "flatMay", inPlace := ["internal/bytealg.IndexByteString", "internal/bytealg.IndexString"], unfollowed := true, recurses := true, named := ["unicode/utf8.first", "unicode/utf8.acceptRanges", "internal/bytealg.MaxLen"], plainKeys := false, apart := false, laid := [("unicode/utf8.acceptRanges", laid_unicode_utf8_acceptRanges), ("unicode/utf8.first", laid_unicode_utf8_first)] }
def FlatMaySaid : Prop := flatMayRow.holds Tryz.pinned (OpenSpec.ofChange flatMaySpec)

/-- ITS FALSE NEIGHBOUR: 'it returns false'. Refute it at one input. -/
def flatMayWrong : ChangeSpec := { name := "flatMay", fn := fun _ => fun
  | [d] => { results := [.lit (.bool false)], args := [d] }
  | _ => none }
def FlatMayWrongFalsely : Prop := flatMayRow.holds Tryz.pinned (OpenSpec.ofChange flatMayWrong)

/-- 'exegetelaw09.NullTells': WHATEVER THE INPUT: true; the input reads as it did. -/
def nullTellsSpec : ChangeSpec := { name := "nullTells", fn := fun _ => fun
  | [d1, d2, d3] => { results := [.lit (.bool true)], args := [d1, d2, d3] }
  | _ => none }
def nullTellsRow : OpenClaim := { program := "ytamefbpdnblbdaagreatdoor", sum := "e539a7603cb889a361e73736dc847a64baf1617daf2d9a1ac5a67c882058e092", func := "exegete/exegetelaw09.NullTells", spec := "nullTells", inPlace := ["internal/bytealg.IndexByteString", "internal/bytealg.IndexString"], unfollowed := true, recurses := true, named := ["unicode/utf8.first", "unicode/utf8.acceptRanges", "internal/bytealg.MaxLen"], plainKeys := false, apart := false, laid := [("unicode/utf8.acceptRanges", laid_unicode_utf8_acceptRanges), ("unicode/utf8.first", laid_unicode_utf8_first)] }
def NullTellsSaid : Prop := nullTellsRow.holds Tryz.pinned (OpenSpec.ofChange nullTellsSpec)

/-- ITS FALSE NEIGHBOUR: 'it returns false'. Refute it at one input. -/
def nullTellsWrong : ChangeSpec := { name := "nullTells", fn := fun _ => fun
  | [d1, d2, d3] => { results := [.lit (.bool false)], args := [d1, d2, d3] }
  | _ => none }
def NullTellsWrongFalsely : Prop := nullTellsRow.holds Tryz.pinned (OpenSpec.ofChange nullTellsWrong)

/-- 'exegetelaw09.NullLeast': WHATEVER THE INPUT: true; the input reads as it did. -/
def nullLeastSpec : ChangeSpec := { name := "nullLeast", fn := fun _ => fun
  | [d1, d2] => { results := [.lit (.bool true)], args := [d1, d2] }
  | _ => none }
def nullLeastRow : OpenClaim := { program := "ytamefbpdnblbdaagreatdoor", sum := "e539a7603cb889a361e73736dc847a64baf1617daf2d9a1ac5a67c882058e092", func := "exegete/exegetelaw09.NullLeast", spec := "nullLeast", inPlace := ["internal/bytealg.IndexByteString", "internal/bytealg.IndexString"], unfollowed := true, recurses := true, named := ["unicode/utf8.first", "unicode/utf8.acceptRanges", "internal/bytealg.MaxLen"], plainKeys := false, apart := false, laid := [("unicode/utf8.acceptRanges", laid_unicode_utf8_acceptRanges), ("unicode/utf8.first", laid_unicode_utf8_first)] }
def NullLeastSaid : Prop := nullLeastRow.holds Tryz.pinned (OpenSpec.ofChange nullLeastSpec)

/-- ITS FALSE NEIGHBOUR: 'it returns false'. Refute it at one input. -/
def nullLeastWrong : ChangeSpec := { name := "nullLeast", fn := fun _ => fun
  | [d1, d2] => { results := [.lit (.bool false)], args := [d1, d2] }
  | _ => none }
def NullLeastWrongFalsely : Prop := nullLeastRow.holds Tryz.pinned (OpenSpec.ofChange nullLeastWrong)

/-- 'exegetelaw09.NullMore': WHATEVER THE INPUT: true; the input reads as it did. -/
def nullMoreSpec : ChangeSpec := { name := "nullMore", fn := fun _ => fun
  | [d1, d2, d3] => { results := [.lit (.bool true)], args := [d1, d2, d3] }
  | _ => none }
def nullMoreRow : OpenClaim := { program := "ytamefbpdnblbdaagreatdoor", sum := "e539a7603cb889a361e73736dc847a64baf1617daf2d9a1ac5a67c882058e092", func := "exegete/exegetelaw09.NullMore", spec := "nullMore", inPlace := ["internal/bytealg.IndexByteString", "internal/bytealg.IndexString"], unfollowed := true, recurses := true, named := ["unicode/utf8.first", "unicode/utf8.acceptRanges", "internal/bytealg.MaxLen"], plainKeys := false, apart := false, laid := [("unicode/utf8.acceptRanges", laid_unicode_utf8_acceptRanges), ("unicode/utf8.first", laid_unicode_utf8_first)] }
def NullMoreSaid : Prop := nullMoreRow.holds Tryz.pinned (OpenSpec.ofChange nullMoreSpec)

/-- ITS FALSE NEIGHBOUR: 'it returns false'. Refute it at one input. -/
def nullMoreWrong : ChangeSpec := { name := "nullMore", fn := fun _ => fun
  | [d1, d2, d3] => { results := [.lit (.bool false)], args := [d1, d2, d3] }
  | _ => none }
def NullMoreWrongFalsely : Prop := nullMoreRow.holds Tryz.pinned (OpenSpec.ofChange nullMoreWrong)

/-- 'exegetelaw09.NullLefts': WHATEVER THE INPUT: true; the input reads as it did. -/
def nullLeftsSpec : ChangeSpec := { name := "nullLefts", fn := fun _ => fun
  | [d1, d2] => { results := [.lit (.bool true)], args := [d1, d2] }
  | _ => none }
def nullLeftsRow : OpenClaim := { program := "ytamefbpdnblbdaagreatdoor", sum := "e539a7603cb889a361e73736dc847a64baf1617daf2d9a1ac5a67c882058e092", func := "exegete/exegetelaw09.NullLefts", spec := "nullLefts", inPlace := ["internal/bytealg.IndexByteString", "internal/bytealg.IndexString"], unfollowed := true, recurses := true, named := ["unicode/utf8.first", "unicode/utf8.acceptRanges", "internal/bytealg.MaxLen"], plainKeys := false, apart := false, laid := [("unicode/utf8.acceptRanges", laid_unicode_utf8_acceptRanges), ("unicode/utf8.first", laid_unicode_utf8_first)] }
def NullLeftsSaid : Prop := nullLeftsRow.holds Tryz.pinned (OpenSpec.ofChange nullLeftsSpec)

/-- ITS FALSE NEIGHBOUR: 'it returns false'. Refute it at one input. -/
def nullLeftsWrong : ChangeSpec := { name := "nullLefts", fn := fun _ => fun
  | [d1, d2] => { results := [.lit (.bool false)], args := [d1, d2] }
  | _ => none }
def NullLeftsWrongFalsely : Prop := nullLeftsRow.holds Tryz.pinned (OpenSpec.ofChange nullLeftsWrong)

/-- 'exegetelaw09.NullJoin': WHATEVER THE INPUT: true; the input reads as it did. -/
def nullJoinSpec : ChangeSpec := { name := "nullJoin", fn := fun _ => fun
  | [d1, d2, d3] => { results := [.lit (.bool true)], args := [d1, d2, d3] }
  | _ => none }
def nullJoinRow : OpenClaim := { program := "ytamefbpdnblbdaagreatdoor", sum := "e539a7603cb889a361e73736dc847a64baf1617daf2d9a1ac5a67c882058e092", func := "exegete/exegetelaw09.NullJoin", spec := "nullJoin", inPlace := ["internal/bytealg.IndexByteString", "internal/bytealg.IndexString"], unfollowed := true, recurses := true, named := ["unicode/utf8.first", "unicode/utf8.acceptRanges", "internal/bytealg.MaxLen"], plainKeys := false, apart := false, laid := [("unicode/utf8.acceptRanges", laid_unicode_utf8_acceptRanges), ("unicode/utf8.first", laid_unicode_utf8_first)] }
def NullJoinSaid : Prop := nullJoinRow.holds Tryz.pinned (OpenSpec.ofChange nullJoinSpec)

/-- ITS FALSE NEIGHBOUR: 'it returns false'. Refute it at one input. -/
def nullJoinWrong : ChangeSpec := { name := "nullJoin", fn := fun _ => fun
  | [d1, d2, d3] => { results := [.lit (.bool false)], args := [d1, d2, d3] }
  | _ => none }
def NullJoinWrongFalsely : Prop := nullJoinRow.holds Tryz.pinned (OpenSpec.ofChange nullJoinWrong)

/- THE SECOND FORM. 'bulk': how many values and letters a reading holds, each counted each time it is reached (what is shared counts as often as it is met; a slice's spare places count too). A statement '..UptoSaid' is the law's where the arguments, and the package variables that the reading takes, are together of bulk at most 1048576: NARROWER than '..Said'. Prove '..Said' where nothing that the law and all that it calls make is longer than what came in: it says more and counts as full. Else prove '..UptoSaid'. A law counts once. -/
mutual
def uptoBulk {H : Type} : DataW H → Nat
  | .lit (.string bytes) => bytes.length + 1
  | .lit _ => 1
  | .nil => 1
  | .ptr d => uptoBulk d + 1
  | .slice elems spare => uptoBulkAll elems + uptoBulkAll spare + 1
  | .agg parts => uptoBulkAll parts + 1
  | .iface _ d => uptoBulk d + 1
  | .map entries => uptoBulkEntries entries + 1
  | .held _ => 1
def uptoBulkAll {H : Type} : List (DataW H) → Nat
  | [] => 0
  | d :: r => uptoBulk d + uptoBulkAll r
def uptoBulkEntries {H : Type} : List (Lit × DataW H) → Nat
  | [] => 0
  | x :: r => uptoBulkEntry x + uptoBulkEntries r
def uptoBulkEntry {H : Type} : Lit × DataW H → Nat
  | (.string bytes, d) => bytes.length + uptoBulk d + 1
  | (_, d) => uptoBulk d + 1
 end
def uptoSmall : (H : Type) → List (DataW H) → Bool := fun _ ds => decide (uptoBulkAll ds ≤ 1048576)
def OpenSpec.upto (s : _root_.Go.ChangeSpec) : _root_.Go.OpenSpec := { _root_.Go.OpenSpec.ofChange s with cond := some uptoSmall }

/-- 'exegetelaw08.FlatMay', WHERE WHAT IT READS IS OF BULK AT MOST 1048576: true; the input reads as it did. -/
def flatMayUptoRow : OpenClaim := { program := "ytamefbpdnblbdaagreatdoor", sum := "e539a7603cb889a361e73736dc847a64baf1617daf2d9a1ac5a67c882058e092", func := "exegete/exegetelaw08.FlatMay", spec := "flatMay", inPlace := ["internal/bytealg.IndexByteString", "internal/bytealg.IndexString"], unfollowed := true, recurses := true, named := ["unicode/utf8.first", "unicode/utf8.acceptRanges", "internal/bytealg.MaxLen"], plainKeys := false, apart := false, laid := [("unicode/utf8.acceptRanges", laid_unicode_utf8_acceptRanges), ("unicode/utf8.first", laid_unicode_utf8_first)], narrowed := true }
def FlatMayUptoSaid : Prop := flatMayUptoRow.holds Tryz.pinned (OpenSpec.upto flatMaySpec)

/-- 'exegetelaw09.NullTells', WHERE WHAT IT READS IS OF BULK AT MOST 1048576: true; the input reads as it did. -/
def nullTellsUptoRow : OpenClaim := { program := "ytamefbpdnblbdaagreatdoor", sum := "e539a7603cb889a361e73736dc847a64baf1617daf2d9a1ac5a67c882058e092", func := "exegete/exegetelaw09.NullTells", spec := "nullTells", inPlace := ["internal/bytealg.IndexByteString", "internal/bytealg.IndexString"], unfollowed := true, recurses := true, named := ["unicode/utf8.first", "unicode/utf8.acceptRanges", "internal/bytealg.MaxLen"], plainKeys := false, apart := false, laid := [("unicode/utf8.acceptRanges", laid_unicode_utf8_acceptRanges), ("unicode/utf8.first", laid_unicode_utf8_first)], narrowed := true }
def NullTellsUptoSaid : Prop := nullTellsUptoRow.holds Tryz.pinned (OpenSpec.upto nullTellsSpec)

/-- 'exegetelaw09.NullLeast', WHERE WHAT IT READS IS OF BULK AT MOST 1048576: true; the input reads as it did. -/
def nullLeastUptoRow : OpenClaim := { program := "ytamefbpdnblbdaagreatdoor", sum := "e539a7603cb889a361e73736dc847a64baf1617daf2d9a1ac5a67c882058e092", func := "exegete/exegetelaw09.NullLeast", spec := "nullLeast", inPlace := ["internal/bytealg.IndexByteString", "internal/bytealg.IndexString"], unfollowed := true, recurses := true, named := ["unicode/utf8.first", "unicode/utf8.acceptRanges", "internal/bytealg.MaxLen"], plainKeys := false, apart := false, laid := [("unicode/utf8.acceptRanges", laid_unicode_utf8_acceptRanges), ("unicode/utf8.first", laid_unicode_utf8_first)], narrowed := true }
def NullLeastUptoSaid : Prop := nullLeastUptoRow.holds Tryz.pinned (OpenSpec.upto nullLeastSpec)

/-- 'exegetelaw09.NullMore', WHERE WHAT IT READS IS OF BULK AT MOST 1048576: true; the input reads as it did. -/
def nullMoreUptoRow : OpenClaim := { program := "ytamefbpdnblbdaagreatdoor", sum := "e539a7603cb889a361e73736dc847a64baf1617daf2d9a1ac5a67c882058e092", func := "exegete/exegetelaw09.NullMore", spec := "nullMore", inPlace := ["internal/bytealg.IndexByteString", "internal/bytealg.IndexString"], unfollowed := true, recurses := true, named := ["unicode/utf8.first", "unicode/utf8.acceptRanges", "internal/bytealg.MaxLen"], plainKeys := false, apart := false, laid := [("unicode/utf8.acceptRanges", laid_unicode_utf8_acceptRanges), ("unicode/utf8.first", laid_unicode_utf8_first)], narrowed := true }
def NullMoreUptoSaid : Prop := nullMoreUptoRow.holds Tryz.pinned (OpenSpec.upto nullMoreSpec)

/-- 'exegetelaw09.NullLefts', WHERE WHAT IT READS IS OF BULK AT MOST 1048576: true; the input reads as it did. -/
def nullLeftsUptoRow : OpenClaim := { program := "ytamefbpdnblbdaagreatdoor", sum := "e539a7603cb889a361e73736dc847a64baf1617daf2d9a1ac5a67c882058e092", func := "exegete/exegetelaw09.NullLefts", spec := "nullLefts", inPlace := ["internal/bytealg.IndexByteString", "internal/bytealg.IndexString"], unfollowed := true, recurses := true, named := ["unicode/utf8.first", "unicode/utf8.acceptRanges", "internal/bytealg.MaxLen"], plainKeys := false, apart := false, laid := [("unicode/utf8.acceptRanges", laid_unicode_utf8_acceptRanges), ("unicode/utf8.first", laid_unicode_utf8_first)], narrowed := true }
def NullLeftsUptoSaid : Prop := nullLeftsUptoRow.holds Tryz.pinned (OpenSpec.upto nullLeftsSpec)

/-- 'exegetelaw09.NullJoin', WHERE WHAT IT READS IS OF BULK AT MOST 1048576: true; the input reads as it did. -/
def nullJoinUptoRow : OpenClaim := { program := "ytamefbpdnblbdaagreatdoor", sum := "e539a7603cb889a361e73736dc847a64baf1617daf2d9a1ac5a67c882058e092", func := "exegete/exegetelaw09.NullJoin", spec := "nullJoin", inPlace := ["internal/bytealg.IndexByteString", "internal/bytealg.IndexString"], unfollowed := true, recurses := true, named := ["unicode/utf8.first", "unicode/utf8.acceptRanges", "internal/bytealg.MaxLen"], plainKeys := false, apart := false, laid := [("unicode/utf8.acceptRanges", laid_unicode_utf8_acceptRanges), ("unicode/utf8.first", laid_unicode_utf8_first)], narrowed := true }
def NullJoinUptoSaid : Prop := nullJoinUptoRow.holds Tryz.pinned (OpenSpec.upto nullJoinSpec)

end Rows
end Go.Proofs.YtamefbpdnblbdaaGreatDoor

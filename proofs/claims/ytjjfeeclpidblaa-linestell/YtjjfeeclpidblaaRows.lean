/-
  No cell of these rows narrows 'for every input' (looked for: loops, veiled, ifaces, maps, wideKeys, modest, calm, conditions, laid).
  DERIVED. THE GIVEN ROWS OF THIS SEAT. 7 by the template 'for every input the law returns true; each argument reads behind the call as it read before'; 0 by the template 'total and deterministic' (their statements: YtjjfeeclpidblaaTotals.lean).
  GIVEN WITH THE SEED: the statements are not yours to turn. If you find one false, say at which input.
  Laid BY PROGRAM, IN A SANDBOX (cutbox-rows.mjs): the forced cells as the released guide's own fill.sh prints them over the translation f1d13a611fd6ab60… (all of the seat's roots in one cut). By AI agents, Wed Nov 11 2026. No macro, syntax, notation, axiom, sorry.
-/
import Derived.Test.YtjjfeeclpidblaaChecked
import GoSem.Claim
import GoSem.ClaimJoined
import GoSem.ClaimMapViews
import Derived.JoinedTies
import Derived.KernelRfl
namespace Go.Proofs.Ytjjfeeclpidblaa
/- THE CELL 'sum', in the pinned program and in every row, IS THE sha256 OF THE DUMP (.gsa) THAT YtjjfeeclpidblaaProg.lean LOADS. Nothing in Lean hashes anything: it is a label: what it is worth is what the hold of that sum in a sandbox is worth. -/
noncomputable def Try.pinned : Pinned := { name := "ytjjfeeclpidblaa", sum := "f1d13a611fd6ab6014f9312cfbbbc6256fd32ddd9259ea7fa894f035977ad0e6", checked := Try.checked }
namespace Rows
def none {H : Type} : Left H := { results := [], args := [] }

/-- 'exegetelaw04.LinesTell': WHATEVER THE INPUT: true; the input reads as it did. -/
def linesTellSpec : ChangeSpec := { name := "linesTell", fn := fun _ => fun
  | [d1, d2, d3] => { results := [.lit (.bool true)], args := [d1, d2, d3] }
  | _ => none }
def linesTellRow : OpenClaim := { program := "ytjjfeeclpidblaa", sum := "f1d13a611fd6ab6014f9312cfbbbc6256fd32ddd9259ea7fa894f035977ad0e6", func := "exegete/exegetelaw04.LinesTell", spec := "linesTell", unfollowed := true, recurses := true, apart := false }
def LinesTellSaid : Prop := linesTellRow.holds Try.pinned (OpenSpec.ofChange linesTellSpec)

/-- ITS FALSE NEIGHBOUR: 'it returns false'. Refute it at one input. -/
def linesTellWrong : ChangeSpec := { name := "linesTell", fn := fun _ => fun
  | [d1, d2, d3] => { results := [.lit (.bool false)], args := [d1, d2, d3] }
  | _ => none }
def LinesTellWrongFalsely : Prop := linesTellRow.holds Try.pinned (OpenSpec.ofChange linesTellWrong)

/-- 'exegetelaw04.LinesCol': WHATEVER THE INPUT: true; the input reads as it did. -/
def linesColSpec : ChangeSpec := { name := "linesCol", fn := fun _ => fun
  | [d1, d2, d3] => { results := [.lit (.bool true)], args := [d1, d2, d3] }
  | _ => none }
def linesColRow : OpenClaim := { program := "ytjjfeeclpidblaa", sum := "f1d13a611fd6ab6014f9312cfbbbc6256fd32ddd9259ea7fa894f035977ad0e6", func := "exegete/exegetelaw04.LinesCol", spec := "linesCol", unfollowed := true, recurses := true, apart := false }
def LinesColSaid : Prop := linesColRow.holds Try.pinned (OpenSpec.ofChange linesColSpec)

/-- ITS FALSE NEIGHBOUR: 'it returns false'. Refute it at one input. -/
def linesColWrong : ChangeSpec := { name := "linesCol", fn := fun _ => fun
  | [d1, d2, d3] => { results := [.lit (.bool false)], args := [d1, d2, d3] }
  | _ => none }
def LinesColWrongFalsely : Prop := linesColRow.holds Try.pinned (OpenSpec.ofChange linesColWrong)

/-- 'exegetelaw04.LinesBound': WHATEVER THE INPUT: true; the input reads as it did. -/
def linesBoundSpec : ChangeSpec := { name := "linesBound", fn := fun _ => fun
  | [d1, d2, d3] => { results := [.lit (.bool true)], args := [d1, d2, d3] }
  | _ => none }
def linesBoundRow : OpenClaim := { program := "ytjjfeeclpidblaa", sum := "f1d13a611fd6ab6014f9312cfbbbc6256fd32ddd9259ea7fa894f035977ad0e6", func := "exegete/exegetelaw04.LinesBound", spec := "linesBound", unfollowed := true, recurses := true, apart := false }
def LinesBoundSaid : Prop := linesBoundRow.holds Try.pinned (OpenSpec.ofChange linesBoundSpec)

/-- ITS FALSE NEIGHBOUR: 'it returns false'. Refute it at one input. -/
def linesBoundWrong : ChangeSpec := { name := "linesBound", fn := fun _ => fun
  | [d1, d2, d3] => { results := [.lit (.bool false)], args := [d1, d2, d3] }
  | _ => none }
def LinesBoundWrongFalsely : Prop := linesBoundRow.holds Try.pinned (OpenSpec.ofChange linesBoundWrong)

/-- 'exegetelaw04.LinesEnds': WHATEVER THE INPUT: true; the input reads as it did. -/
def linesEndsSpec : ChangeSpec := { name := "linesEnds", fn := fun _ => fun
  | [d] => { results := [.lit (.bool true)], args := [d] }
  | _ => none }
def linesEndsRow : OpenClaim := { program := "ytjjfeeclpidblaa", sum := "f1d13a611fd6ab6014f9312cfbbbc6256fd32ddd9259ea7fa894f035977ad0e6", func := "exegete/exegetelaw04.LinesEnds", spec := "linesEnds", unfollowed := true, recurses := true, apart := false }
def LinesEndsSaid : Prop := linesEndsRow.holds Try.pinned (OpenSpec.ofChange linesEndsSpec)

/-- ITS FALSE NEIGHBOUR: 'it returns false'. Refute it at one input. -/
def linesEndsWrong : ChangeSpec := { name := "linesEnds", fn := fun _ => fun
  | [d] => { results := [.lit (.bool false)], args := [d] }
  | _ => none }
def LinesEndsWrongFalsely : Prop := linesEndsRow.holds Try.pinned (OpenSpec.ofChange linesEndsWrong)

/-- 'exegetelaw04.LinesLine': WHATEVER THE INPUT: true; the input reads as it did. -/
def linesLineSpec : ChangeSpec := { name := "linesLine", fn := fun _ => fun
  | [d1, d2] => { results := [.lit (.bool true)], args := [d1, d2] }
  | _ => none }
def linesLineRow : OpenClaim := { program := "ytjjfeeclpidblaa", sum := "f1d13a611fd6ab6014f9312cfbbbc6256fd32ddd9259ea7fa894f035977ad0e6", func := "exegete/exegetelaw04.LinesLine", spec := "linesLine", unfollowed := true, recurses := true, apart := false }
def LinesLineSaid : Prop := linesLineRow.holds Try.pinned (OpenSpec.ofChange linesLineSpec)

/-- ITS FALSE NEIGHBOUR: 'it returns false'. Refute it at one input. -/
def linesLineWrong : ChangeSpec := { name := "linesLine", fn := fun _ => fun
  | [d1, d2] => { results := [.lit (.bool false)], args := [d1, d2] }
  | _ => none }
def LinesLineWrongFalsely : Prop := linesLineRow.holds Try.pinned (OpenSpec.ofChange linesLineWrong)

/-- 'exegetelaw04.LinesTabs': WHATEVER THE INPUT: true; the input reads as it did. -/
def linesTabsSpec : ChangeSpec := { name := "linesTabs", fn := fun _ => fun
  | [d1, d2, d3] => { results := [.lit (.bool true)], args := [d1, d2, d3] }
  | _ => none }
def linesTabsRow : OpenClaim := { program := "ytjjfeeclpidblaa", sum := "f1d13a611fd6ab6014f9312cfbbbc6256fd32ddd9259ea7fa894f035977ad0e6", func := "exegete/exegetelaw04.LinesTabs", spec := "linesTabs", unfollowed := true, recurses := true, apart := false }
def LinesTabsSaid : Prop := linesTabsRow.holds Try.pinned (OpenSpec.ofChange linesTabsSpec)

/-- ITS FALSE NEIGHBOUR: 'it returns false'. Refute it at one input. -/
def linesTabsWrong : ChangeSpec := { name := "linesTabs", fn := fun _ => fun
  | [d1, d2, d3] => { results := [.lit (.bool false)], args := [d1, d2, d3] }
  | _ => none }
def LinesTabsWrongFalsely : Prop := linesTabsRow.holds Try.pinned (OpenSpec.ofChange linesTabsWrong)

/-- 'exegetelaw04.LinesAhead': WHATEVER THE INPUT: true; the input reads as it did. -/
def linesAheadSpec : ChangeSpec := { name := "linesAhead", fn := fun _ => fun
  | [d1, d2, d3, d4] => { results := [.lit (.bool true)], args := [d1, d2, d3, d4] }
  | _ => none }
def linesAheadRow : OpenClaim := { program := "ytjjfeeclpidblaa", sum := "f1d13a611fd6ab6014f9312cfbbbc6256fd32ddd9259ea7fa894f035977ad0e6", func := "exegete/exegetelaw04.LinesAhead", spec := "linesAhead", unfollowed := true, recurses := true, apart := false }
def LinesAheadSaid : Prop := linesAheadRow.holds Try.pinned (OpenSpec.ofChange linesAheadSpec)

/-- ITS FALSE NEIGHBOUR: 'it returns false'. Refute it at one input. -/
def linesAheadWrong : ChangeSpec := { name := "linesAhead", fn := fun _ => fun
  | [d1, d2, d3, d4] => { results := [.lit (.bool false)], args := [d1, d2, d3, d4] }
  | _ => none }
def LinesAheadWrongFalsely : Prop := linesAheadRow.holds Try.pinned (OpenSpec.ofChange linesAheadWrong)

/- THE SECOND FORM. 'bulk': how many values and letters a reading holds, each counted each time it is reached (what is shared counts as often as it is met; a slice's spare places count too). A statement '..UptoSaid' is the law's where the arguments, and the package variables that the reading takes, are together of bulk at most 1048576: NARROWER than '..Said'. Prove '..Said' where nothing that the law and all that it calls make is longer than what came in: it says more and counts as full. Else prove '..UptoSaid'. A law counts once. -/
mutual
def uptoBulk {H : Type} : DataW H → Nat
  | .lit (.string bytes) => bytes.length + 1
  | .lit _ => 1
  | .nil => 1
  | .ptr d => uptoBulk d + 1
  | .slice elems spare => uptoBulkAll elems + uptoBulkAll spare + 1
  | .agg parts => uptoBulkAll parts + 1
  | .iface _ d => uptoBulk d + 1
  | .map entries => uptoBulkEntries entries + 1
  | .held _ => 1
def uptoBulkAll {H : Type} : List (DataW H) → Nat
  | [] => 0
  | d :: r => uptoBulk d + uptoBulkAll r
def uptoBulkEntries {H : Type} : List (Lit × DataW H) → Nat
  | [] => 0
  | x :: r => uptoBulkEntry x + uptoBulkEntries r
def uptoBulkEntry {H : Type} : Lit × DataW H → Nat
  | (.string bytes, d) => bytes.length + uptoBulk d + 1
  | (_, d) => uptoBulk d + 1
 end
def uptoSmall : (H : Type) → List (DataW H) → Bool := fun _ ds => decide (uptoBulkAll ds ≤ 1048576)
def OpenSpec.upto (s : _root_.Go.ChangeSpec) : _root_.Go.OpenSpec := { _root_.Go.OpenSpec.ofChange s with cond := some uptoSmall }

/-- 'exegetelaw04.LinesTell', WHERE WHAT IT READS IS OF BULK AT MOST 1048576: true; the input reads as it did. -/
def linesTellUptoRow : OpenClaim := { program := "ytjjfeeclpidblaa", sum := "f1d13a611fd6ab6014f9312cfbbbc6256fd32ddd9259ea7fa894f035977ad0e6", func := "exegete/exegetelaw04.LinesTell", spec := "linesTell", unfollowed := true, recurses := true, apart := false, narrowed := true }
def LinesTellUptoSaid : Prop := linesTellUptoRow.holds Try.pinned (OpenSpec.upto linesTellSpec)

/-- 'exegetelaw04.LinesCol', WHERE WHAT IT READS IS OF BULK AT MOST 1048576: true; the input reads as it did. -/
def linesColUptoRow : OpenClaim := { program := "ytjjfeeclpidblaa", sum := "f1d13a611fd6ab6014f9312cfbbbc6256fd32ddd9259ea7fa894f035977ad0e6", func := "exegete/exegetelaw04.LinesCol", spec := "linesCol", unfollowed := true, recurses := true, apart := false, narrowed := true }
def LinesColUptoSaid : Prop := linesColUptoRow.holds Try.pinned (OpenSpec.upto linesColSpec)

/-- 'exegetelaw04.LinesBound', WHERE WHAT IT READS IS OF BULK AT MOST 1048576: true; the input reads as it did. -/
def linesBoundUptoRow : OpenClaim := { program := "ytjjfeeclpidblaa", sum := "f1d13a611fd6ab6014f9312cfbbbc6256fd32ddd9259ea7fa894f035977ad0e6", func := "exegete/exegetelaw04.LinesBound", spec := "linesBound", unfollowed := true, recurses := true, apart := false, narrowed := true }
def LinesBoundUptoSaid : Prop := linesBoundUptoRow.holds Try.pinned (OpenSpec.upto linesBoundSpec)

/-- 'exegetelaw04.LinesEnds', WHERE WHAT IT READS IS OF BULK AT MOST 1048576: true; the input reads as it did. -/
def linesEndsUptoRow : OpenClaim := { program := "ytjjfeeclpidblaa", sum := "f1d13a611fd6ab6014f9312cfbbbc6256fd32ddd9259ea7fa894f035977ad0e6", func := "exegete/exegetelaw04.LinesEnds", spec := "linesEnds", unfollowed := true, recurses := true, apart := false, narrowed := true }
def LinesEndsUptoSaid : Prop := linesEndsUptoRow.holds Try.pinned (OpenSpec.upto linesEndsSpec)

/-- 'exegetelaw04.LinesLine', WHERE WHAT IT READS IS OF BULK AT MOST 1048576: true; the input reads as it did. -/
def linesLineUptoRow : OpenClaim := { program := "ytjjfeeclpidblaa", sum := "f1d13a611fd6ab6014f9312cfbbbc6256fd32ddd9259ea7fa894f035977ad0e6", func := "exegete/exegetelaw04.LinesLine", spec := "linesLine", unfollowed := true, recurses := true, apart := false, narrowed := true }
def LinesLineUptoSaid : Prop := linesLineUptoRow.holds Try.pinned (OpenSpec.upto linesLineSpec)

/-- 'exegetelaw04.LinesTabs', WHERE WHAT IT READS IS OF BULK AT MOST 1048576: true; the input reads as it did. -/
def linesTabsUptoRow : OpenClaim := { program := "ytjjfeeclpidblaa", sum := "f1d13a611fd6ab6014f9312cfbbbc6256fd32ddd9259ea7fa894f035977ad0e6", func := "exegete/exegetelaw04.LinesTabs", spec := "linesTabs", unfollowed := true, recurses := true, apart := false, narrowed := true }
def LinesTabsUptoSaid : Prop := linesTabsUptoRow.holds Try.pinned (OpenSpec.upto linesTabsSpec)

/-- 'exegetelaw04.LinesAhead', WHERE WHAT IT READS IS OF BULK AT MOST 1048576: true; the input reads as it did. -/
def linesAheadUptoRow : OpenClaim := { program := "ytjjfeeclpidblaa", sum := "f1d13a611fd6ab6014f9312cfbbbc6256fd32ddd9259ea7fa894f035977ad0e6", func := "exegete/exegetelaw04.LinesAhead", spec := "linesAhead", unfollowed := true, recurses := true, apart := false, narrowed := true }
def LinesAheadUptoSaid : Prop := linesAheadUptoRow.holds Try.pinned (OpenSpec.upto linesAheadSpec)

end Rows
end Go.Proofs.Ytjjfeeclpidblaa

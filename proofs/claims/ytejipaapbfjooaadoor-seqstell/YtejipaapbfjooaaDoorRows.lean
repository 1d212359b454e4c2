/-
  NARROWER THAN 'FOR EVERY INPUT', by the rows' own cells (each row's printed sentence says how): SeqsTell: laid · SeqsMatch: laid · SeqsEach: laid · SeqsPart: laid · SeqsJoin: laid · SeqsBytes: laid · SeqsAll: laid.
  DERIVED. THE GIVEN ROWS OF THIS SEAT. 7 by the template 'for every input the law returns true; each argument reads behind the call as it read before'; 0 by the template 'total and deterministic' (their statements: YtejipaapbfjooaaDoorTotals.lean).
  GIVEN WITH THE SEED: the statements are not yours to turn. If you find one false, say at which input.
  Laid BY PROGRAM, IN A SANDBOX (cutbox-rows.mjs): the forced cells as the released guide's own fill.sh prints them over the translation b62e51e14821ed5e… (all of the seat's roots in one cut). By AI agents, Wed Nov 11 2026. No macro, syntax, notation, axiom, sorry.
-/
import Derived.Test.YtejipaapbfjooaaDoorChecked
import GoSem.Claim
import GoSem.ClaimJoined
import GoSem.ClaimMapViews
import Derived.JoinedTies
import Derived.KernelRfl
namespace Go.Proofs.YtejipaapbfjooaaDoor
/- THE CELL 'sum', in the pinned program and in every row, IS THE sha256 OF THE DUMP (.gsa) THAT YtejipaapbfjooaaDoorProg.lean LOADS. Nothing in Lean hashes anything: it is a label: what it is worth is what the hold of that sum in a sandbox is worth. -/
noncomputable def Tryd.pinned : Pinned := { name := "ytejipaapbfjooaadoor", sum := "b62e51e14821ed5e9ce923fe1dc53947ff596d1d421c606da3cbabfe3a028eb8", checked := Tryd.checked }
namespace Rows
def none {H : Type} : Left H := { results := [], args := [] }

/- WHAT THE LISTED PACKAGE-LEVEL VARIABLES READ AS WHEN THE CALL BEGINS. Each datum BY PROGRAM (the guide's laid-datum.mjs) off the statement by which the dump's own 'gosem.cut.vars' lays the variable. In a bare row this is a premise. The card (YtejipaapbfjooaaDoorCards.lean) ties it to the program's text. -/
def laid_exegete_seqs_widths {H : Type} : DataW H := .agg [.agg [.agg [.lit (.int .i64 0), .lit (.int .i64 127)], .lit (.int .i64 1)], .agg [.agg [.lit (.int .i64 128), .lit (.int .i64 2047)], .lit (.int .i64 2)], .agg [.agg [.lit (.int .i64 2048), .lit (.int .i64 55295)], .lit (.int .i64 3)], .agg [.agg [.lit (.int .i64 57344), .lit (.int .i64 65535)], .lit (.int .i64 3)], .agg [.agg [.lit (.int .i64 65536), .lit (.int .i64 1114111)], .lit (.int .i64 4)]]

/-- 'exegetelaw03.SeqsTell': WHATEVER THE INPUT: true; the input reads as it did. -/
def seqsTellSpec : ChangeSpec := { name := "seqsTell", fn := fun _ => fun
  | [d1, d2, d3, d4] => { results := [.lit (.bool true)], args := [d1, d2, d3, d4] }
  | _ => none }
def seqsTellRow : OpenClaim := { program := "ytejipaapbfjooaadoor", sum := "b62e51e14821ed5e9ce923fe1dc53947ff596d1d421c606da3cbabfe3a028eb8", func := "exegete/exegetelaw03.SeqsTell", spec := "seqsTell", unfollowed := true, recurses := true, named := ["exegete/seqs.widths"], apart := false, laid := [("exegete/seqs.widths", laid_exegete_seqs_widths)] }
def SeqsTellSaid : Prop := seqsTellRow.holds Tryd.pinned (OpenSpec.ofChange seqsTellSpec)

/-- ITS FALSE NEIGHBOUR: 'it returns false'. Refute it at one input. -/
def seqsTellWrong : ChangeSpec := { name := "seqsTell", fn := fun _ => fun
  | [d1, d2, d3, d4] => { results := [.lit (.bool false)], args := [d1, d2, d3, d4] }
  | _ => none }
def SeqsTellWrongFalsely : Prop := seqsTellRow.holds Tryd.pinned (OpenSpec.ofChange seqsTellWrong)

/-- 'exegetelaw03.SeqsMatch': WHATEVER THE INPUT: true; the input reads as it did. -/
def seqsMatchSpec : ChangeSpec := { name := "seqsMatch", fn := fun _ => fun
  | [d1, d2, d3] => { results := [.lit (.bool true)], args := [d1, d2, d3] }
  | _ => none }
def seqsMatchRow : OpenClaim := { program := "ytejipaapbfjooaadoor", sum := "b62e51e14821ed5e9ce923fe1dc53947ff596d1d421c606da3cbabfe3a028eb8", func := "exegete/exegetelaw03.SeqsMatch", spec := "seqsMatch", unfollowed := true, recurses := true, named := ["exegete/seqs.widths"], apart := false, laid := [("exegete/seqs.widths", laid_exegete_seqs_widths)] }
def SeqsMatchSaid : Prop := seqsMatchRow.holds Tryd.pinned (OpenSpec.ofChange seqsMatchSpec)

/-- ITS FALSE NEIGHBOUR: 'it returns false'. Refute it at one input. -/
def seqsMatchWrong : ChangeSpec := { name := "seqsMatch", fn := fun _ => fun
  | [d1, d2, d3] => { results := [.lit (.bool false)], args := [d1, d2, d3] }
  | _ => none }
def SeqsMatchWrongFalsely : Prop := seqsMatchRow.holds Tryd.pinned (OpenSpec.ofChange seqsMatchWrong)

/-- 'exegetelaw03.SeqsEach': WHATEVER THE INPUT: true; the input reads as it did. -/
def seqsEachSpec : ChangeSpec := { name := "seqsEach", fn := fun _ => fun
  | [d1, d2] => { results := [.lit (.bool true)], args := [d1, d2] }
  | _ => none }
def seqsEachRow : OpenClaim := { program := "ytejipaapbfjooaadoor", sum := "b62e51e14821ed5e9ce923fe1dc53947ff596d1d421c606da3cbabfe3a028eb8", func := "exegete/exegetelaw03.SeqsEach", spec := "seqsEach", unfollowed := true, recurses := true, named := ["exegete/seqs.widths"], apart := false, laid := [("exegete/seqs.widths", laid_exegete_seqs_widths)] }
def SeqsEachSaid : Prop := seqsEachRow.holds Tryd.pinned (OpenSpec.ofChange seqsEachSpec)

/-- ITS FALSE NEIGHBOUR: 'it returns false'. Refute it at one input. -/
def seqsEachWrong : ChangeSpec := { name := "seqsEach", fn := fun _ => fun
  | [d1, d2] => { results := [.lit (.bool false)], args := [d1, d2] }
  | _ => none }
def SeqsEachWrongFalsely : Prop := seqsEachRow.holds Tryd.pinned (OpenSpec.ofChange seqsEachWrong)

/-- 'exegetelaw03.SeqsPart': WHATEVER THE INPUT: true; the input reads as it did. -/
def seqsPartSpec : ChangeSpec := { name := "seqsPart", fn := fun _ => fun
  | [d1, d2, d3, d4] => { results := [.lit (.bool true)], args := [d1, d2, d3, d4] }
  | _ => none }
def seqsPartRow : OpenClaim := { program := "ytejipaapbfjooaadoor", sum := "b62e51e14821ed5e9ce923fe1dc53947ff596d1d421c606da3cbabfe3a028eb8", func := "exegete/exegetelaw03.SeqsPart", spec := "seqsPart", unfollowed := true, recurses := true, named := ["exegete/seqs.widths"], apart := false, laid := [("exegete/seqs.widths", laid_exegete_seqs_widths)] }
def SeqsPartSaid : Prop := seqsPartRow.holds Tryd.pinned (OpenSpec.ofChange seqsPartSpec)

/-- ITS FALSE NEIGHBOUR: 'it returns false'. Refute it at one input. -/
def seqsPartWrong : ChangeSpec := { name := "seqsPart", fn := fun _ => fun
  | [d1, d2, d3, d4] => { results := [.lit (.bool false)], args := [d1, d2, d3, d4] }
  | _ => none }
def SeqsPartWrongFalsely : Prop := seqsPartRow.holds Tryd.pinned (OpenSpec.ofChange seqsPartWrong)

/-- 'exegetelaw03.SeqsJoin': WHATEVER THE INPUT: true; the input reads as it did. -/
def seqsJoinSpec : ChangeSpec := { name := "seqsJoin", fn := fun _ => fun
  | [d1, d2, d3, d4] => { results := [.lit (.bool true)], args := [d1, d2, d3, d4] }
  | _ => none }
def seqsJoinRow : OpenClaim := { program := "ytejipaapbfjooaadoor", sum := "b62e51e14821ed5e9ce923fe1dc53947ff596d1d421c606da3cbabfe3a028eb8", func := "exegete/exegetelaw03.SeqsJoin", spec := "seqsJoin", unfollowed := true, recurses := true, named := ["exegete/seqs.widths"], apart := false, laid := [("exegete/seqs.widths", laid_exegete_seqs_widths)] }
def SeqsJoinSaid : Prop := seqsJoinRow.holds Tryd.pinned (OpenSpec.ofChange seqsJoinSpec)

/-- ITS FALSE NEIGHBOUR: 'it returns false'. Refute it at one input. -/
def seqsJoinWrong : ChangeSpec := { name := "seqsJoin", fn := fun _ => fun
  | [d1, d2, d3, d4] => { results := [.lit (.bool false)], args := [d1, d2, d3, d4] }
  | _ => none }
def SeqsJoinWrongFalsely : Prop := seqsJoinRow.holds Tryd.pinned (OpenSpec.ofChange seqsJoinWrong)

/-- 'exegetelaw03.SeqsBytes': WHATEVER THE INPUT: true; the input reads as it did. -/
def seqsBytesSpec : ChangeSpec := { name := "seqsBytes", fn := fun _ => fun
  | [d] => { results := [.lit (.bool true)], args := [d] }
  | _ => none }
def seqsBytesRow : OpenClaim := { program := "ytejipaapbfjooaadoor", sum := "b62e51e14821ed5e9ce923fe1dc53947ff596d1d421c606da3cbabfe3a028eb8", func := "exegete/exegetelaw03.SeqsBytes", spec := "seqsBytes", unfollowed := true, recurses := true, named := ["exegete/seqs.widths"], apart := false, laid := [("exegete/seqs.widths", laid_exegete_seqs_widths)] }
def SeqsBytesSaid : Prop := seqsBytesRow.holds Tryd.pinned (OpenSpec.ofChange seqsBytesSpec)

/-- ITS FALSE NEIGHBOUR: 'it returns false'. Refute it at one input. -/
def seqsBytesWrong : ChangeSpec := { name := "seqsBytes", fn := fun _ => fun
  | [d] => { results := [.lit (.bool false)], args := [d] }
  | _ => none }
def SeqsBytesWrongFalsely : Prop := seqsBytesRow.holds Tryd.pinned (OpenSpec.ofChange seqsBytesWrong)

/-- 'exegetelaw03.SeqsAll': WHATEVER THE INPUT: true; the input reads as it did. -/
def seqsAllSpec : ChangeSpec := { name := "seqsAll", fn := fun _ => fun
  | [d1, d2] => { results := [.lit (.bool true)], args := [d1, d2] }
  | _ => none }
def seqsAllRow : OpenClaim := { program := "ytejipaapbfjooaadoor", sum := "b62e51e14821ed5e9ce923fe1dc53947ff596d1d421c606da3cbabfe3a028eb8", func := "exegete/exegetelaw03.SeqsAll", spec := "seqsAll", unfollowed := true, recurses := true, named := ["exegete/seqs.widths"], apart := false, laid := [("exegete/seqs.widths", laid_exegete_seqs_widths)] }
def SeqsAllSaid : Prop := seqsAllRow.holds Tryd.pinned (OpenSpec.ofChange seqsAllSpec)

/-- ITS FALSE NEIGHBOUR: 'it returns false'. Refute it at one input. -/
def seqsAllWrong : ChangeSpec := { name := "seqsAll", fn := fun _ => fun
  | [d1, d2] => { results := [.lit (.bool false)], args := [d1, d2] }
  | _ => none }
def SeqsAllWrongFalsely : Prop := seqsAllRow.holds Tryd.pinned (OpenSpec.ofChange seqsAllWrong)

/- THE SECOND FORM. 'bulk': how many values and letters a reading holds, each counted each time it is reached (what is shared counts as often as it is met; a slice's spare places count too). A statement '..UptoSaid' is the law's where the arguments, and the package variables that the reading takes, are together of bulk at most 1048576: NARROWER than '..Said'. Prove '..Said' where nothing that the law and all that it calls make is longer than what came in: it says more and counts as full. Else prove '..UptoSaid'. A law counts once. -/
mutual
def uptoBulk {H : Type} : DataW H → Nat
  | .lit (.string bytes) => bytes.length + 1
  | .lit _ => 1
  | .nil => 1
  | .ptr d => uptoBulk d + 1
  | .slice elems spare => uptoBulkAll elems + uptoBulkAll spare + 1
  | .agg parts => uptoBulkAll parts + 1
  | .iface _ d => uptoBulk d + 1
  | .map entries => uptoBulkEntries entries + 1
  | .held _ => 1
def uptoBulkAll {H : Type} : List (DataW H) → Nat
  | [] => 0
  | d :: r => uptoBulk d + uptoBulkAll r
def uptoBulkEntries {H : Type} : List (Lit × DataW H) → Nat
  | [] => 0
  | x :: r => uptoBulkEntry x + uptoBulkEntries r
def uptoBulkEntry {H : Type} : Lit × DataW H → Nat
  | (.string bytes, d) => bytes.length + uptoBulk d + 1
  | (_, d) => uptoBulk d + 1
 end
def uptoSmall : (H : Type) → List (DataW H) → Bool := fun _ ds => decide (uptoBulkAll ds ≤ 1048576)
def OpenSpec.upto (s : _root_.Go.ChangeSpec) : _root_.Go.OpenSpec := { _root_.Go.OpenSpec.ofChange s with cond := some uptoSmall }

/-- 'exegetelaw03.SeqsTell', WHERE WHAT IT READS IS OF BULK AT MOST 1048576: true; the input reads as it did. -/
def seqsTellUptoRow : OpenClaim := { program := "ytejipaapbfjooaadoor", sum := "b62e51e14821ed5e9ce923fe1dc53947ff596d1d421c606da3cbabfe3a028eb8", func := "exegete/exegetelaw03.SeqsTell", spec := "seqsTell", unfollowed := true, recurses := true, named := ["exegete/seqs.widths"], apart := false, laid := [("exegete/seqs.widths", laid_exegete_seqs_widths)], narrowed := true }
def SeqsTellUptoSaid : Prop := seqsTellUptoRow.holds Tryd.pinned (OpenSpec.upto seqsTellSpec)

/-- 'exegetelaw03.SeqsMatch', WHERE WHAT IT READS IS OF BULK AT MOST 1048576: true; the input reads as it did. -/
def seqsMatchUptoRow : OpenClaim := { program := "ytejipaapbfjooaadoor", sum := "b62e51e14821ed5e9ce923fe1dc53947ff596d1d421c606da3cbabfe3a028eb8", func := "exegete/exegetelaw03.SeqsMatch", spec := "seqsMatch", unfollowed := true, recurses := true, named := ["exegete/seqs.widths"], apart := false, laid := [("exegete/seqs.widths", laid_exegete_seqs_widths)], narrowed := true }
def SeqsMatchUptoSaid : Prop := seqsMatchUptoRow.holds Tryd.pinned (OpenSpec.upto seqsMatchSpec)

/-- 'exegetelaw03.SeqsEach', WHERE WHAT IT READS IS OF BULK AT MOST 1048576: true; the input reads as it did. -/
def seqsEachUptoRow : OpenClaim := { program := "ytejipaapbfjooaadoor", sum := "b62e51e14821ed5e9ce923fe1dc53947ff596d1d421c606da3cbabfe3a028eb8", func := "exegete/exegetelaw03.SeqsEach", spec := "seqsEach", unfollowed := true, recurses := true, named := ["exegete/seqs.widths"], apart := false, laid := [("exegete/seqs.widths", laid_exegete_seqs_widths)], narrowed := true }
def SeqsEachUptoSaid : Prop := seqsEachUptoRow.holds Tryd.pinned (OpenSpec.upto seqsEachSpec)

/-- 'exegetelaw03.SeqsPart', WHERE WHAT IT READS IS OF BULK AT MOST 1048576: true; the input reads as it did. -/
def seqsPartUptoRow : OpenClaim := { program := "ytejipaapbfjooaadoor", sum := "b62e51e14821ed5e9ce923fe1dc53947ff596d1d421c606da3cbabfe3a028eb8", func := "exegete/exegetelaw03.SeqsPart", spec := "seqsPart", unfollowed := true, recurses := true, named := ["exegete/seqs.widths"], apart := false, laid := [("exegete/seqs.widths", laid_exegete_seqs_widths)], narrowed := true }
def SeqsPartUptoSaid : Prop := seqsPartUptoRow.holds Tryd.pinned (OpenSpec.upto seqsPartSpec)

/-- 'exegetelaw03.SeqsJoin', WHERE WHAT IT READS IS OF BULK AT MOST 1048576: true; the input reads as it did. -/
def seqsJoinUptoRow : OpenClaim := { program := "ytejipaapbfjooaadoor", sum := "b62e51e14821ed5e9ce923fe1dc53947ff596d1d421c606da3cbabfe3a028eb8", func := "exegete/exegetelaw03.SeqsJoin", spec := "seqsJoin", unfollowed := true, recurses := true, named := ["exegete/seqs.widths"], apart := false, laid := [("exegete/seqs.widths", laid_exegete_seqs_widths)], narrowed := true }
def SeqsJoinUptoSaid : Prop := seqsJoinUptoRow.holds Tryd.pinned (OpenSpec.upto seqsJoinSpec)

/-- 'exegetelaw03.SeqsBytes', WHERE WHAT IT READS IS OF BULK AT MOST 1048576: true; the input reads as it did. -/
def seqsBytesUptoRow : OpenClaim := { program := "ytejipaapbfjooaadoor", sum := "b62e51e14821ed5e9ce923fe1dc53947ff596d1d421c606da3cbabfe3a028eb8", func := "exegete/exegetelaw03.SeqsBytes", spec := "seqsBytes", unfollowed := true, recurses := true, named := ["exegete/seqs.widths"], apart := false, laid := [("exegete/seqs.widths", laid_exegete_seqs_widths)], narrowed := true }
def SeqsBytesUptoSaid : Prop := seqsBytesUptoRow.holds Tryd.pinned (OpenSpec.upto seqsBytesSpec)

/-- 'exegetelaw03.SeqsAll', WHERE WHAT IT READS IS OF BULK AT MOST 1048576: true; the input reads as it did. -/
def seqsAllUptoRow : OpenClaim := { program := "ytejipaapbfjooaadoor", sum := "b62e51e14821ed5e9ce923fe1dc53947ff596d1d421c606da3cbabfe3a028eb8", func := "exegete/exegetelaw03.SeqsAll", spec := "seqsAll", unfollowed := true, recurses := true, named := ["exegete/seqs.widths"], apart := false, laid := [("exegete/seqs.widths", laid_exegete_seqs_widths)], narrowed := true }
def SeqsAllUptoSaid : Prop := seqsAllUptoRow.holds Tryd.pinned (OpenSpec.upto seqsAllSpec)

end Rows
end Go.Proofs.YtejipaapbfjooaaDoor

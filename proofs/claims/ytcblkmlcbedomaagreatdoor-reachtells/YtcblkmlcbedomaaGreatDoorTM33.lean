/- Parts of the proof that stand ahead of it (T 33). -/
import Derived.Test.YtcblkmlcbedomaaGreatDoorTM32
import Derived.Test.YtcblkmlcbedomaaGreatDoorTM23
set_option linter.unusedVariables false
set_option linter.unusedSimpArgs false
set_option maxRecDepth 20000
set_option maxHeartbeats 16000000
namespace Go.Proofs.YtcblkmlcbedomaaGreatDoor.Nl
open Go.RowKit Go.Shelf Go.Proofs.YtcblkmlcbedomaaGreatDoor.T Go.Proofs.YtcblkmlcbedomaaGreatDoor.R Go.Proofs.YtcblkmlcbedomaaGreatDoor.F
def lefL (is:List Bool):List SY→List Int
 | []=> []
 |s::l=>if s.1=2 then s.2.2::(if nulS is s=true then lefL is l else [])else []
def leftP (g:GR) (n x:Int):Prop:=gramB g.1=true∧∃(i:Nat) (p:PRD) (a:List SY),n=(i:Int)∧g.1[i]? =some p∧a∈p.1∧x∈lefL (nuL g.1) a
def LfR (w:World) (g:GR) (n:Int) (e:Ending) (w':World):Prop:=∃v L,e= .returned v∧InV w' w.heap.size v L∧List.Pairwise (· < ·) L∧(∀x,x∈L↔leftP g n x)∧Below w.heap.size w w'
attribute [local go_sem] Oper.semAt_some
def isS (x:Int) (s:SY):Bool:=s.1==2&&s.2.2==x
end Go.Proofs.YtcblkmlcbedomaaGreatDoor.Nl

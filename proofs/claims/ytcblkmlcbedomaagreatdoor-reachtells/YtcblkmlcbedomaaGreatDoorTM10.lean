/- Parts of the proof that stand ahead of it (T 10). -/
import Derived.Deep.AppendLies
import Derived.Deep.RegionHeld3
import Derived.BigQuiet
import Derived.Test.YtcblkmlcbedomaaGreatDoorTM5
set_option linter.unusedVariables false
set_option linter.unusedSimpArgs false
set_option maxRecDepth 20000
set_option maxHeartbeats 16000000
namespace Go.Proofs.YtcblkmlcbedomaaGreatDoor.K
open Go.RowKit
theorem ju {w w':World} {base z n:Nat} {t:TypeId} {v:Value} {xs:List Value} (h:w.ownsRow base t z v n xs) (k:∀g,v.ownBlock=some g→w'.heap[g]? =w.heap[g]?):w'.ownsRow base t z v n xs:=by
 refine⟨h.1,?_⟩
 rcases h.2 with h|⟨g,cap,cur,e,hb,hg,r⟩
 ·exact .inl h
 ·subst e
  exact .inr ⟨g,cap,cur,rfl,hb,(k g rfl).trans hg,r⟩
theorem os_set (w:World) (p:Addr) (u:Value):(w.setCell p u).os=w.os:=rfl
theorem tape_set (w:World) (p:Addr) (u:Value):(w.setCell p u).tape=w.tape:=rfl
theorem out_set (w:World) (p:Addr) (u:Value):(w.setCell p u).output=w.output:=rfl
theorem set5 {w:World} {b:Nat} {t:TypeId} {a0 a1 a2 a3 a4:Value} (h:w.heap[b]? =some (.cells #[a0,a1,a2,a3,a4] t)) (n0 n1 n2 n3 n4:Value):
  (((((w.setCell ⟨b,0,none⟩ n0).setCell ⟨b,1,none⟩ n1).setCell ⟨b,2,none⟩ n2).setCell ⟨b,3,none⟩ n3).setCell ⟨b,4,none⟩ n4).heap[b]? =some (.cells #[n0,n1,n2,n3,n4] t)∧
  (((((w.setCell ⟨b,0,none⟩ n0).setCell ⟨b,1,none⟩ n1).setCell ⟨b,2,none⟩ n2).setCell ⟨b,3,none⟩ n3).setCell ⟨b,4,none⟩ n4).heap.size=w.heap.size∧
  (∀k,k≠b→(((((w.setCell ⟨b,0,none⟩ n0).setCell ⟨b,1,none⟩ n1).setCell ⟨b,2,none⟩ n2).setCell ⟨b,3,none⟩ n3).setCell ⟨b,4,none⟩ n4).heap[k]? =w.heap[k]?)∧
  (((((w.setCell ⟨b,0,none⟩ n0).setCell ⟨b,1,none⟩ n1).setCell ⟨b,2,none⟩ n2).setCell ⟨b,3,none⟩ n3).setCell ⟨b,4,none⟩ n4).os=w.os∧
  (((((w.setCell ⟨b,0,none⟩ n0).setCell ⟨b,1,none⟩ n1).setCell ⟨b,2,none⟩ n2).setCell ⟨b,3,none⟩ n3).setCell ⟨b,4,none⟩ n4).tape=w.tape∧
  (((((w.setCell ⟨b,0,none⟩ n0).setCell ⟨b,1,none⟩ n1).setCell ⟨b,2,none⟩ n2).setCell ⟨b,3,none⟩ n3).setCell ⟨b,4,none⟩ n4).output=w.output:=by
 have h1:=heap_setCell_same w b 0 _ _ n0 h
 have h2:=heap_setCell_same _ b 1 _ _ n1 h1
 have h3:=heap_setCell_same _ b 2 _ _ n2 h2
 have h4:=heap_setCell_same _ b 3 _ _ n3 h3
 have h5:=heap_setCell_same _ b 4 _ _ n4 h4
 refine⟨by rw[h5];simp,by simp,fun k hk=> ?_,by rw[os_set,os_set,os_set,os_set,os_set],by rw[tape_set,tape_set,tape_set,tape_set,tape_set],by rw[out_set,out_set,out_set,out_set,out_set]⟩
 rw[heap_setCell_other _ ⟨b,4,none⟩ k _ (fun e=>hk (by simpa using e)),heap_setCell_other _ ⟨b,3,none⟩ k _ (fun e=>hk (by simpa using e)),heap_setCell_other _ ⟨b,2,none⟩ k _ (fun e=>hk (by simpa using e)),heap_setCell_other _ ⟨b,1,none⟩ k _ (fun e=>hk (by simpa using e)),heap_setCell_other _ ⟨b,0,none⟩ k _ (fun e=>hk (by simpa using e))]
def left (l out:List Int):Nat:=(l.filter fun y=>decide (y∉out)).length
end Go.Proofs.YtcblkmlcbedomaaGreatDoor.K

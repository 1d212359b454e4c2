/- Parts of the proof that stand ahead of it (T 7). -/
import Derived.OpenShut
import Derived.Test.YtcblkmlcbedomaaGreatDoorTM4
set_option linter.unusedVariables false
set_option linter.unusedSimpArgs false
set_option maxRecDepth 20000
set_option maxHeartbeats 16000000
namespace Go.Proofs.YtcblkmlcbedomaaGreatDoor
open Go.RowKit
theorem loadCells0 (w:World) (x:Addr):(loadCells x 0).run Tryz.prog w= .ok (([]:List Int).map (Value.int .u8)).toArray w:=by
 have:=run_loadCells_list (P:=Tryz.prog) w x [] (fun j v hj=>by simp at hj)
 simpa using this
theorem Bs.str {w:World} {a:Option Addr} {len cap:Nat} {l:List Int} (h:Bs w a len cap l):
  (convert 130 9 (.slice a len cap)).run Tryz.prog w= .ok (.string (strOfNums l)) w:=by
 by_cases hp:1≤len
 ·obtain⟨b,off,rfl,hb⟩:=h.open hp
  exact run_convert_bytes_arg w 130 5 Tryz.underlying130 Tryz.underlying5 b off len cap l hb.hlen hb.hcell 9 Tryz.underlying9
 ·have h0:len=0:=by omega
  have hl:=h.hlen
  subst h0
  have:l=[]:=List.eq_nil_of_length_eq_zero hl
  subst this
  cases a with
  |none=>exact run_convert_bytes_nil w 130 5 Tryz.underlying130 Tryz.underlying5 0 cap 9 Tryz.underlying9
  |some x=>
   rw[run_convert_bytes_string w 130 9 5 _ 0 cap Tryz.underlying130 Tryz.underlying5 Tryz.underlying9,run_bytesToString w x 0 cap [] (loadCells0 w x)]
   rfl
theorem strOf_inj {l m:List Int} (hl:U.zv l) (hm:U.zv m) (h:strOfNums l=strOfNums m):l=m:=by
 have h':(l.map fun n=>UInt8.ofNat n.toNat)=m.map fun n=>UInt8.ofNat n.toNat:=by
  have:=congrArg (fun s:ByteArray=>s.data.toList) h
  simpa [strOfNums_data] using this
 clear h
 induction l generalizing m with
 |nil=>cases m with
  |nil=>rfl
  |cons=>simp at h'
 |cons a l ih=>cases m with
  |nil=>simp at h'
  |cons b m=>
   simp only[List.map_cons,List.cons.injEq]at h'
   have e:=congrArg UInt8.toNat h'.1
   have ba:=U.Y7 hl
   have bb:=U.Y7 hm
   simp only[UInt8.toNat_ofNat']at e
   rw[Nat.mod_eq_of_lt (by omega),Nat.mod_eq_of_lt (by omega)]at e
   have:a=b:=by omega
   subst this
   rw[ih (U.kJ hl) (U.kJ hm) h'.2]
theorem info_byte:(Tryz.prog.info? 5).map (fun i=>(i.zero,i.size,i.bytes))=some (some (.int .u8 0),1,1):=by kernel_rfl
theorem Bs.ofOwn {w:World} {base:Nat} {v:Value} {n:Nat} {l:List Int} (hb:U.zv l) (h:w.ownsRow base 5 1 v n (l.map (Value.int .u8))):∃a cap,v= .slice a n cap∧Bs w a n cap l:=by
 obtain⟨h1,h2⟩:=h
 have hl:l.length=n:=by simpa using h1
 rcases h2 with ⟨rfl,rfl⟩|⟨g,cap,cur,rfl,_,hg,hnc,hcm,hcs,hx⟩
 ·exact⟨none,0,rfl,hl,Nat.le_refl _,Nat.zero_le _,hb,fun i hi=>by omega⟩
 ·refine⟨_,_,rfl,hl,hnc,hcm,hb,fun i hi=>⟨g,0,rfl,?_⟩⟩
  have hi2:i<l.length:=by omega
  have e1:cur.toList[i]? =some (.int .u8 (l.getD i 0)):=by
   have e2:(cur.toList.take (n*1))[i]? =some (.int .u8 (l.getD i 0)):=by
    rw[hx];simp[hi2]
   rw[List.getElem?_take]at e2
   split at e2
   ·exact e2
   ·simp at e2
  have e3:cur[i]? =some (.int .u8 (l.getD i 0)):=by rw[←Array.getElem?_toList];exact e1
  simp only[World.cell?,hg]
  simpa using e3
end Go.Proofs.YtcblkmlcbedomaaGreatDoor

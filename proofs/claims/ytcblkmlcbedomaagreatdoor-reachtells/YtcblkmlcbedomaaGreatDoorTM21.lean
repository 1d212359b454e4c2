/- Parts of the proof that stand ahead of it (T 21). -/
import Derived.Shelf.SlSortCmp.NoneTotal
import Derived.Test.YtcblkmlcbedomaaGreatDoorTM6
import Derived.Test.YtcblkmlcbedomaaGreatDoorTM19
set_option linter.unusedVariables false
set_option linter.unusedSimpArgs false
set_option maxRecDepth 20000
set_option maxHeartbeats 16000000
namespace Go.Proofs.YtcblkmlcbedomaaGreatDoor
open Go.RowKit Go.Shelf Go.Sort
def cmpI (x y:Int):Int:=if x<y then-1 else if y<x then 1 else 0
theorem compare_any (x y:Int) (w:World):
  Calls Tryz.prog 237 #[.int .i64 x,.int .i64 y] w fun e w'=>e= .returned (.int .i64 (cmpI x y))∧w'=w:=by
 unfold cmpI
 by_cases h1:x<y
 ·rw[if_pos h1]
  go_enter Tryz.func237,Tryz.ntmps237
  go_wp2
  go_ret
  exact⟨rfl,rfl⟩
 ·rw[if_neg h1]
  by_cases h2:y<x
  ·rw[if_pos h2]
   go_enter Tryz.func237,Tryz.ntmps237
   go_wp2
   go_ret
   exact⟨rfl,rfl⟩
  ·rw[if_neg h2]
   go_enter Tryz.func237,Tryz.ntmps237
   go_wp2
   go_ret
   exact⟨rfl,rfl⟩
def encRg (r:Int×Int):List Value:=[.int .i64 r.1,.int .i64 r.2]
theorem byLo_any (x y:Int×Int) (W:World):Calls Tryz.prog 219 #[.agg #[.int .i64 x.1,.int .i64 x.2],.agg #[.int .i64 y.1,.int .i64 y.2]] W fun e w'=>e= .returned (.int .i64 (cmpI x.1 y.1))∧∃q os',w'=grow (W.drewN q) os':=by
 have hcon:=fun W'=>compare_any x.1 y.1 W'
 generalize cmpI x.1 y.1=r at hcon⊢
 go_enter Tryz.func219,Tryz.ntmps219
 go_wp2_with (go_at_call 237;refine(hcon _).mono ?_;rintro e w' ⟨rfl,rfl⟩)
 go_ret
 exact⟨rfl,0,_,by rw[alloc_eq_grow,alloc_eq_grow,grow_grow];rfl⟩
theorem ltLo (x y:Int×Int):ltOf (fun x y:Int×Int=>cmpI x.1 y.1) x y=decide (x.1<y.1):=by
 unfold ltOf cmpI
 by_cases h1:x.1<y.1
 ·simp[h1]
 ·by_cases h2:y.1<x.1<;>simp[h1,h2]
theorem swoLo:SWO (ltOf fun x y:Int×Int=>cmpI x.1 y.1) where
 irrefl x:=by rw[ltLo];simp
 trans x y z h1 h2:=by rw[ltLo]at*;simp at*;omega
 ntrans x y z h1 h2:=by rw[ltLo]at*;simp at*;omega
theorem sorted_below {base:Nat} {w:World} {g n:Nat} {F:Array Value} {os:Array Obj} (hg:base≤g) (hs:g<w.heap.size):Below base w (grow (putRow id (Sort.ahead w n) g 0 F) os):=by
 refine⟨rfl,rfl,rfl,by simp[grow,putRow,mapBlock,Sort.ahead],fun k hk=> ?_⟩
 simp only[grow,putRow,mapBlock,Sort.ahead]
 rw[Array.getElem?_append_left (by simp;omega),Array.getElem?_modify,if_neg (by omega)]
structure Sd (l l':List (Int×Int)):Prop where
 perm:l'.Perm l
 up:l'.Pairwise fun a b=>a.1≤b.1
theorem sort_any (base:Nat) (v:Value) (l:List (Int×Int)) (w:World) (h:Ow w base v l) (hf:∀r∈l,yQ r.1∧yQ r.2) (hs:l.length≤1000000):
  Calls Tryz.prog 218 #[v,.func (.func 219) #[] #[]] w fun e w'=>e= .returned (.tuple #[])∧(∃a cap l',v= .slice a l.length cap∧Sd l l'∧Rs w' a l.length cap l')∧Below base w w':=by
 by_cases hp:l=[]
 ·subst hp
  obtain⟨a,cap,hv,hr⟩:=h.rs hf
  subst hv
  have hcon:=AnyF.slices_SortFunc_none sortRg a cap (.func (.func 219) #[] #[]) w
  change Calls Tryz.prog 218 _ _ _ at hcon
  refine hcon.mono ?_
  rintro e w' ⟨rfl,rfl⟩
  exact⟨rfl,⟨a,cap,[],rfl,⟨List.Perm.refl _,List.Pairwise.nil⟩,hr⟩,Below.refl _ _⟩
 ·have h0:0<l.length:=by cases l with
   |nil=>exact absurd rfl hp
   |cons=>simp
  rcases h.2 with ⟨_,e⟩|⟨g,cap,cur,rfl,hb,hg,hn,hm,hsz,ht⟩
  ·omega
  ·have hlt:g<w.heap.size:=(Array.getElem?_eq_some_iff.1 hg).1
   have hH:HoldsK encRg 2 w g 0 l.toArray:=by
    intro j hj
    rw[size_flatK]at hj
    rw[get_flatK _ _ _ _ hj]
    have hj2:j/2<l.length:=by simp at hj;omega
    have k:=cellsL_at l (j/2) hj2
    have e:(l.toArray[j/2]! :Int×Int)=l.getD (j/2) (0,0):=by
     simp[List.getD,hj2]
    rw[e]
    have c:∀(i:Nat) (u:Value),(yx l)[i]? =some u→w.cell? ⟨g,0+i,none⟩=some u:=by
     intro i u hi
     have:=World.ownsRow.cells h (g:=g) rfl i u hi
     rw[show(⟨g,0,none⟩:Addr).add i=⟨g,0+i,none⟩ from by rw[Addr.add_lit]]at this
     exact this
    refine⟨?_,by have:=h.frozenAt (0+j);exact this⟩
    rcases Nat.mod_two_eq_zero_or_one j with hj0|hj0
    ·have ej:j=j/2*2:=by omega
     rw[hj0]
     have:=c _ _ k.1
     rw[←ej]at this
     exact this
    ·have ej:j=j/2*2+1:=by omega
     rw[hj0]
     have:=c _ _ k.2
     rw[←ej]at this
     exact this
   have eg:∀args w,(callFunc 219 args).run Tryz.prog w= .ok (.enter 219 args) w:=enters_of Tryz.func219 (by kernel_rfl) rfl
   have hcon:=AnyQ.slices_SortFunc sortRg 2 Tryz.isAgg51 Tryz.sizeOf51 encRg (fun _=>rfl) (fun x v hv=>by simp[encRg]at hv;rcases hv with rfl|rfl<;>rfl) (fun x y=>cmpI x.1 y.1) swoLo 219 #[] g 0 cap l.toArray w eg (fun _ _ _ _ x y=>byLo_any x y _) hH hlt (by simp;omega)
   change Calls Tryz.prog 218 _ _ _ at hcon
   simp only[List.size_toArray]at hcon
   refine hcon.mono ?_
   rintro e w' ⟨rfl,d',n,os,hpm,hsd,rfl⟩
   refine⟨rfl,⟨_,cap,d'.toList,rfl,?_,?_⟩,?_⟩
   ·obtain⟨p1,_,p3⟩:=hpm
    have p1':d'.size=l.length:=by simpa using p1
    refine⟨?_,?_⟩
    ·have e1:d'.extract 0 l.length=d':=by rw[←p1'];simp
     have e2:l.toArray.extract 0 l.length=l.toArray:=by simp
     rw[e1,e2]at p3
     simpa using p3
    ·rw[List.pairwise_iff_getElem]
     intro i j hi hj hij
     have:=hsd i j (Nat.zero_le _) hij (by simp at hj;omega)
     rw[ltLo]at this
     have hi':i<d'.size:=by simpa using hi
     have hj':j<d'.size:=by simpa using hj
     rw[getElem!_pos d' i hi',getElem!_pos d' j hj']at this
     simp at this⊢
     exact this
   ·obtain⟨p1,_,p3⟩:=hpm
    have p1':d'.size=l.length:=by simpa using p1
    have pm:d'.toList.Perm l:=by
     have e1:d'.extract 0 l.length=d':=by rw[←p1'];simp
     have e2:l.toArray.extract 0 l.length=l.toArray:=by simp
     rw[e1,e2]at p3
     simpa using p3
    have hK:HoldsK encRg 2 (sortWorldK encRg 2 w g 0 n d' os) g 0 d':=
     holdsK_grow _ _ _ _ _ _ _ (by simp[putRowK,putRow,mapBlock,Sort.ahead];exact hlt) (holdsK_putRowK _ _ _ _ _ l.toArray d' (holdsK_ahead _ _ _ _ _ _ _ hH) p1)
    refine⟨by simpa using p1',hn,hm,fun r hr=>hf r (pm.mem_iff.1 hr),fun i hi=>⟨g,0,rfl,?_⟩⟩
    have hi':i<d'.size:=by omega
    have c0:=(hK.cell (i:=i) (c:=0) hi' (by omega)).1
    have c1:=(hK.cell (i:=i) (c:=1) hi' (by omega)).1
    rw[getElem!_pos d' i hi']at c0 c1
    have eL:d'.toList.getD i (0,0)=d'[i]:=by simp[List.getD,hi']
    rw[eL]
    exact⟨c0,c1⟩
   ·exact sorted_below hb hlt
end Go.Proofs.YtcblkmlcbedomaaGreatDoor

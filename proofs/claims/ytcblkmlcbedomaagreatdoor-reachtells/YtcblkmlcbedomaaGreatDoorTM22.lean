/- Parts of the proof that stand ahead of it (T 22). -/
import Derived.Deep.RegionHeld3
import Derived.RangeFuncBox
import Derived.Test.YtcblkmlcbedomaaGreatDoorTM21
set_option linter.unusedVariables false
set_option linter.unusedSimpArgs false
set_option maxRecDepth 20000
set_option maxHeartbeats 16000000
namespace Go.Proofs.YtcblkmlcbedomaaGreatDoor
open Go.RowKit Go.Shelf
structure NI (P:List (Int×Int)) (k:Nat) (out:List (Int×Int)):Prop where
 may:G.zo out=true
 has:∀n,G.hasB out n=G.hasB (P.take k) n
 last:∀o x y,out=o++[(x,y)]→∀r∈P.drop k,x≤r.1
 len:out.length≤k
theorem NI.first {P:List (Int×Int)} {k:Nat} {lo hi:Int} (h:NI P k []) (hP:∀r∈P,0≤r.1∧r.1≤r.2∧r.2≤1114111) (hs:P.Pairwise fun a b=>a.1≤b.1) (hd:P.drop k=(lo,hi)::P.drop (k+1)) (ht:P.take (k+1)=P.take k++[(lo,hi)]):NI P (k+1) [(lo,hi)]:=by
 have hm:(lo,hi)∈P:=List.mem_of_mem_drop (by rw[hd];simp)
 have hb:=hP _ hm
 have hs':(P.drop k).Pairwise fun a b=>a.1≤b.1:=hs.sublist (List.drop_sublist _ _)
 rw[hd,List.pairwise_cons]at hs'
 refine⟨by unfold G.zo;rw[G.mayFrom_one];exact hb,fun n=> ?_,fun o x y e r hr=> ?_,by simp⟩
 ·rw[ht,G.qZ,←h.has];simp[G.hasB]
 ·cases o with
  |nil=>simp at e;obtain⟨rfl,rfl⟩:=e;exact hs'.1 r hr
  |cons=>simp at e
theorem NI.new {P:List (Int×Int)} {k:Nat} {o:List (Int×Int)} {x y lo hi:Int} (h:NI P k (o++[(x,y)])) (hP:∀r∈P,0≤r.1∧r.1≤r.2∧r.2≤1114111) (hs:P.Pairwise fun a b=>a.1≤b.1) (hd:P.drop k=(lo,hi)::P.drop (k+1)) (ht:P.take (k+1)=P.take k++[(lo,hi)]) (hlt:y+1<lo):NI P (k+1) (o++[(x,y)]++[(lo,hi)]):=by
 have hm:(lo,hi)∈P:=List.mem_of_mem_drop (by rw[hd];simp)
 have hb:=hP _ hm
 have hs':(P.drop k).Pairwise fun a b=>a.1≤b.1:=hs.sublist (List.drop_sublist _ _)
 rw[hd,List.pairwise_cons]at hs'
 refine⟨G.join_new h.may hlt hb.2.1 hb.2.2,fun n=> ?_,fun o' x' y' e r hr=> ?_,by have:=h.len;simp at*;omega⟩
 ·rw[ht,G.qZ,G.qZ (P.take k),h.has]
 ·have e':=List.append_inj_right' e (by simp)
  simp at e';obtain⟨rfl,rfl⟩:=e'
  exact hs'.1 r hr
theorem NI.wide {P:List (Int×Int)} {k:Nat} {o:List (Int×Int)} {x y lo hi z:Int} (h:NI P k (o++[(x,y)])) (hP:∀r∈P,0≤r.1∧r.1≤r.2∧r.2≤1114111) (hs:P.Pairwise fun a b=>a.1≤b.1) (hd:P.drop k=(lo,hi)::P.drop (k+1)) (ht:P.take (k+1)=P.take k++[(lo,hi)]) (hlt:lo≤y+1) (hz:z=max y hi):NI P (k+1) (o++[(x,z)]):=by
 have hm:(lo,hi)∈P:=List.mem_of_mem_drop (by rw[hd];simp)
 have hb:=hP _ hm
 have hx:=h.last o x y rfl (lo,hi) (by rw[hd];simp)
 have hs':(P.drop k).Pairwise fun a b=>a.1≤b.1:=hs.sublist (List.drop_sublist _ _)
 rw[hd,List.pairwise_cons]at hs'
 obtain⟨j1,j2⟩:=G.join_wide h.may hlt hb.2.1 hb.2.2 hx hz
 refine⟨j1,fun n=> ?_,fun o' x' y' e r hr=> ?_,by have:=h.len;simp at*;omega⟩
 ·rw[ht,j2,h.has,G.qZ,G.jY]
 ·have e':=List.append_inj_right' e (by simp)
  simp at e';obtain⟨rfl,rfl⟩:=e'
  have:=hs'.1 r hr
  simp only at hx this
  omega
theorem hasB_perm {a b:List (Int×Int)} (h:a.Perm b) (n:Int):G.hasB a n=G.hasB b n:=by
 unfold G.hasB
 rw[Bool.eq_iff_iff,List.any_eq_true,List.any_eq_true]
 constructor
 ·rintro⟨r,hr,hx⟩;exact⟨r,h.mem_iff.1 hr,hx⟩
 ·rintro⟨r,hr,hx⟩;exact⟨r,h.mem_iff.2 hr,hx⟩
theorem NI.done {l P:List (Int×Int)} {k:Nat} {out:List (Int×Int)} (h:NI P k out) (hk:P.length≤k) (hp:P.Perm (xX l)):G.Is out (fun n=>G.dom n&&G.hasB l n):=by
 refine⟨h.may,fun n=> ?_⟩
 rw[h.has,List.take_of_length_le hk,hasB_perm hp,clipL_has]
theorem cellsL_set2 (done:List (Int×Int)) (x y z:Int):(yx (done++[(x,y)])).set (done.length*2+1) (.int .i64 z)=yx (done++[(x,z)]):=by
 rw[yj,yj,List.set_append_right _ _ (by rw[yo];omega),yo,show done.length*2+1-done.length*2=1 by omega]
 rfl
theorem below_append1 {B:Nat} {w w1:World} {k:Nat} {o1:Obj} {e:TypeId} {sz n:Nat} {v:Value} {xs:List Value} (h:w.ownsRow B e sz v n xs) (hB:B≤w.heap.size) (hg:((w.drewN k).alloc o1).grownBy w1 v.ownBlock):Below B w w1:=by
 have d:Below B w (w.drewN k):=⟨rfl,rfl,rfl,Nat.le_refl _,fun _ _=>rfl⟩
 exact(d.alloc hB o1).grown hg (by simp;omega) (fun k hk=>(h.lt k hk).1)
theorem norm_any (a:Option Addr) (len cap:Nat) (l:List (Int×Int)) (w:World) (h:Rs w a len cap l) (hs:len≤1000000):
  Calls Tryz.prog 188 #[.slice a len cap] w fun e w'=>∃v out,e= .returned v∧Ow w' w.heap.size v out∧G.Is out (fun n=>G.dom n&&G.hasB l n)∧Below w.heap.size w w':=by
 have hl:=h.hlen
 have hcl:(xX l).length≤1000000:=by have:=clipL_length l;omega
 have c1:=clipped_any a len cap l w h hs
 have C1:=zk c1
 clear c1
 obtain⟨i0,hi0,hz0,hz1,hz2⟩:=info_parts infoRg
 go_enter Tryz.func188,Tryz.ntmps188
 go_wp2_with fail
 refine(zq C1).mono ?_
 rintro e w1 ⟨v1,rfl,hown1,hb1⟩
 have C2:=zk (sort_any _ _ _ _ hown1 (fun r hr=>fits_clip hr) hcl)
 go_wp2_with fail
 refine(zq C2).mono ?_
 rintro e w2 ⟨rfl,⟨pa,pcap,P,rfl,hsd,hrp⟩,hb2⟩
 clear C1 C2 hown1
 have hP:∀r∈P,0≤r.1∧r.1≤r.2∧r.2≤1114111:=fun r hr=>clipL_mem (hsd.perm.mem_iff.1 hr)
 have hup:=hsd.up
 have hpl:P.length=(xX l).length:=hsd.perm.length_eq
 have hP':=zk hP
 have hup':=zk hup
 have hpm':=zk hsd.perm
 clear hP hup hsd
 have hmax:=hrp.hmax
 have hcap:=hrp.hcap
 unfold maxLen at hmax
 generalize hm:(xX l).length=m at*
 clear hm
 go_wp2
 go_loopw [4,14] (fun v i wr=>∃(k:Nat) (out:List (Int×Int)),k≤m∧i= .int .i64 k∧NI P k out∧wr.ownsRow w2.heap.size 51 2 v out.length (yx out)∧Below w2.heap.size w2 wr) (fun _ i _=>m-(intOf i).toNat)
 case atStart=>exact⟨0,[],Nat.zero_le _,rfl,⟨rfl,fun n=>by simp,fun o x y e=>by simp at e,Nat.le_refl _⟩,World.ownsRow_nil _ _ _ _,Below.refl _ _⟩
 case round=>
  obtain⟨k,out,hk,rfl,hni,hown,hb⟩:=hrel
  by_cases hlt:k<m
  ·obtain⟨b,off,rfl,hr⟩:=(hrp.later hb (Nat.le_refl _)).open (by omega)
   obtain⟨lo,hi,hd,htk,f1,f2,c0,c1⟩:=hr.at k hlt
   unfold yQ at f1 f2
   have hbd:=zq hP' (lo,hi) (List.mem_of_mem_drop (by rw[hd];simp))
   obtain⟨hbd0,hbd1,hbd2⟩:=hbd
   simp only at hbd0 hbd1 hbd2
   have hd':=zk hd
   have ht':=zk htk
   have hol:=hni.len
   have hni':=zk hni
   clear hd htk hr hni
   rcases List.eq_nil_or_concat out with ho|⟨o,⟨x,y⟩,ho⟩
   ·subst ho
    have st:=zk ((zq hni').first (zq hP') (zq hup') (zq hd') (zq ht'))
    obtain⟨va,vc,rfl⟩:=xu hown
    simp only[List.length_nil]at hown
    have ownA:=hown.alloc (boxRg lo hi)
    have bA:Below w2.heap.size w2 (wr.alloc (boxRg lo hi)):=hb.alloc hb.size _
    have b0:(wr.alloc (boxRg lo hi)).cell? ⟨wr.heap.size,0,none⟩=some (.int .i64 lo):=by rw[World.cell?_alloc_at _ _ _ _ rfl];rfl
    have b1:(wr.alloc (boxRg lo hi)).cell? ⟨wr.heap.size,1,none⟩=some (.int .i64 hi):=by rw[World.cell?_alloc_at _ _ _ _ rfl];rfl
    have sA:(wr.alloc (boxRg lo hi)).heap.size=wr.heap.size+1:=by simp
    go_wp2_with fail
    generalize wr.alloc (Obj.cells #[Value.int IntKind.i64 lo,Value.int IntKind.i64 hi] 51)=wa at*
    have b0':∀k,(wa.drewN k).cell? ⟨wr.heap.size,0,none⟩=some (.int .i64 lo):=fun k=>by simpa using b0
    have b1':∀k,(wa.drewN k).cell? ⟨wr.heap.size,1,none⟩=some (.int .i64 hi):=fun k=>by simpa using b1
    have sz1:w2.heap.size≤wa.heap.size:=bA.size
    have SA:=zk sA
    clear sA
    go_quiet (fail)
    have ownB:(wa.drewN nq).ownsRow w2.heap.size 51 2 (.slice va 0 vc) 0 (yx []):=ownA
    go_wp2_with (at_builtin;refine wpList_append_lies _ rfl _ _ 39 rfl w2.heap.size 51 i0 _ 2 16 Tryz.underlying39 hi0 hz0 hz1 hz2 rfl (by omega) _ _ _ rfl (ownB.alloc _) ⟨wa.heap.size,0,none⟩ 1 1 [.int .i64 lo,.int .i64 hi] rfl rfl (jW _ _ _ _ (by simp)) (by simp[Value.oneCell']) (by omega) (by unfold maxLen;omega) (by omega) (by simp;omega) (wa.heap.size+1) (by simp) ?_;intro gg cap1 w3 hown3 hgrow hat hlt1)
    go_roundw
    case rel=>exact⟨k+1,[(lo,hi)],by omega,by go_num,zq st,hown3,bA.trans (below_append1 ownA sz1 hgrow)⟩
    case measure=>simp[intOf];omega
   ·rw[List.concat_eq_append]at ho
    subst ho
    obtain⟨g,vc,hv⟩:=ownsRow_succ (k:=o.length) (by simpa using hown)
    subst hv
    rw[List.length_append]at hown hol
    simp only[List.length_cons,List.length_nil,Nat.zero_add]at hown hol
    have hyb:y≤1114111∧0≤y:=by
     have:=G.may_mem (zq hni').may (r:=(x,y)) (by simp)
     simp only at this;omega
    obtain⟨hy1,hy0⟩:=hyb
    have hgb:=hown.lt g rfl
    have u1:=hown.cellAt (o.length*2+1) (by omega)
    have u2:=hown.frozenAt (o.length*2+1)
    rw[yj,List.getElem?_append_right (by rw[yo];omega),yo,show o.length*2+1-o.length*2=1 by omega,show(yx [(x,y)])[1]? =some (.int .i64 y) from rfl]at u1
    have hz:decide ((o.length:Int)<0)=false:=decide_eq_false (by omega)
    by_cases t1:y+1<lo
    ·have st:=zk ((zq hni').new (zq hP') (zq hup') (zq hd') (zq ht') t1)
     have ownA:=hown.alloc (boxRg lo hi)
     have bA:Below w2.heap.size w2 (wr.alloc (boxRg lo hi)):=hb.alloc hb.size _
     have b0:(wr.alloc (boxRg lo hi)).cell? ⟨wr.heap.size,0,none⟩=some (.int .i64 lo):=by rw[World.cell?_alloc_at _ _ _ _ rfl];rfl
     have b1:(wr.alloc (boxRg lo hi)).cell? ⟨wr.heap.size,1,none⟩=some (.int .i64 hi):=by rw[World.cell?_alloc_at _ _ _ _ rfl];rfl
     have u1A:(wr.alloc (boxRg lo hi)).cell? ⟨g,o.length*2+1,none⟩=some (.int .i64 y):=by rw[(Below.new1 (w:=wr) (boxRg lo hi)).cell (p:=⟨g,o.length*2+1,none⟩) hgb.2];exact u1
     have sA:(wr.alloc (boxRg lo hi)).heap.size=wr.heap.size+1:=by simp
     go_wp2_with fail
     generalize wr.alloc (Obj.cells #[Value.int IntKind.i64 lo,Value.int IntKind.i64 hi] 51)=wa at*
     have b0':∀k,(wa.drewN k).cell? ⟨wr.heap.size,0,none⟩=some (.int .i64 lo):=fun k=>by simpa using b0
     have b1':∀k,(wa.drewN k).cell? ⟨wr.heap.size,1,none⟩=some (.int .i64 hi):=fun k=>by simpa using b1
     have u1':∀k,(wa.drewN k).cell? ⟨g,o.length*2+1,none⟩=some (.int .i64 y):=fun k=>by simpa using u1A
     have sz1:w2.heap.size≤wa.heap.size:=bA.size
     have SA:=zk sA
     clear sA
     go_quiet (fail)
     have ownB:(wa.drewN nq).ownsRow w2.heap.size 51 2 (.slice (some ⟨g,0,none⟩) (o.length+1) vc) (o.length+1) (yx (o++[(x,y)])):=ownA
     go_wp2_with (at_builtin;refine wpList_append_lies _ rfl _ _ 39 rfl w2.heap.size 51 i0 _ 2 16 Tryz.underlying39 hi0 hz0 hz1 hz2 rfl (by omega) _ _ _ rfl (ownB.alloc _) ⟨wa.heap.size,0,none⟩ 1 1 [.int .i64 lo,.int .i64 hi] rfl rfl (jW _ _ _ _ (by simp)) (by simp[Value.oneCell']) (by omega) (by unfold maxLen;omega) (by omega) (by simp;omega) (wa.heap.size+1) (by simp) ?_;intro gg cap1 w3 hown3 hgrow hat hlt1)
     go_roundw
     case rel=>exact⟨k+1,o++[(x,y)]++[(lo,hi)],by omega,by go_num,zq st,by rw[yj (o++[(x,y)]),List.length_append,List.length_append];exact hown3,bA.trans (below_append1 ownA sz1 hgrow)⟩
     case measure=>simp[intOf];omega
    ·have st:=zk ((zq hni').wide (z:=max y hi) (zq hP') (zq hup') (zq hd') (zq ht') (by omega) rfl)
     have ownA:=hown.alloc (boxRg lo hi)
     have bA:Below w2.heap.size w2 (wr.alloc (boxRg lo hi)):=hb.alloc hb.size _
     have b0:(wr.alloc (boxRg lo hi)).cell? ⟨wr.heap.size,0,none⟩=some (.int .i64 lo):=by rw[World.cell?_alloc_at _ _ _ _ rfl];rfl
     have b1:(wr.alloc (boxRg lo hi)).cell? ⟨wr.heap.size,1,none⟩=some (.int .i64 hi):=by rw[World.cell?_alloc_at _ _ _ _ rfl];rfl
     have u1A:(wr.alloc (boxRg lo hi)).cell? ⟨g,o.length*2+1,none⟩=some (.int .i64 y):=by rw[(Below.new1 (w:=wr) (boxRg lo hi)).cell (p:=⟨g,o.length*2+1,none⟩) hgb.2];exact u1
     have u2A:(wr.alloc (boxRg lo hi)).frozen? ⟨g,o.length*2+1,none⟩=false:=by rw[(Below.new1 (w:=wr) (boxRg lo hi)).frozen (p:=⟨g,o.length*2+1,none⟩) hgb.2];exact u2
     have hne:g≠wr.heap.size:=by omega
     go_wp2_with fail
     generalize wr.alloc (Obj.cells #[Value.int IntKind.i64 lo,Value.int IntKind.i64 hi] 51)=wa at*
     have b0':∀k,(wa.drewN k).cell? ⟨wr.heap.size,0,none⟩=some (.int .i64 lo):=fun k=>by simpa using b0
     have u1':∀k,(wa.drewN k).cell? ⟨g,o.length*2+1,none⟩=some (.int .i64 y):=fun k=>by simpa using u1A
     go_quiet (fail)
     have b1':(wa.drewN nq).cell? ⟨wr.heap.size,1,none⟩=some (.int .i64 hi):=by simpa using b1
     have u1'':(wa.drewN nq).cell? ⟨g,o.length*2+1,none⟩=some (.int .i64 y):=by simpa using u1A
     have u2':(wa.drewN nq).frozen? ⟨g,o.length*2+1,none⟩=false:=by simpa using u2A
     have hx1:(o.length:Int)<((o.length+1:Nat):Int):=by omega
     have hx0:(0:Int)≤(o.length:Int):=by omega
     have ownB:(wa.drewN nq).ownsRow w2.heap.size 51 2 (.slice (some ⟨g,0,none⟩) (o.length+1) vc) (o.length+1) (yx (o++[(x,y)])):=ownA
     have bB:Below w2.heap.size w2 (wa.drewN nq):=bA.trans ⟨rfl,rfl,rfl,Nat.le_refl _,fun _ _=>rfl⟩
     clear b0' u1' b0 b1 u1A u2A ownA bA c0 c1
     generalize wa.drewN nq=wb at*
     go_wp2_with fail
     have hx2:(o.length:Int)<(o.length:Int)+1:=by omega
     go_region
     go_wp2_with fail
     obtain⟨o3,g3⟩:=ownB.stored (o.length*2+1) (.int .i64 (max y hi))
     rw[cellsL_set2]at o3
     refine⟨⟨k+1,o++[(x,max y hi)],by omega,by go_num,zq st,?_,((bB.setCell (by simp;omega) _)).drew⟩,by simp[intOf];omega⟩
     rw[List.length_append]
     exact o3
  ·have fin:=zk (hni.done (l:=l) (by omega) (zq hpm'))
   clear hni
   go_wp2
   go_ret
   have s1:=hb1.size
   have s2:=hb2.size
   exact⟨_,out,rfl,own_mono hown (by omega),zq fin,(hb1.trans hb2).trans (hb.mono (by omega))⟩
end Go.Proofs.YtcblkmlcbedomaaGreatDoor

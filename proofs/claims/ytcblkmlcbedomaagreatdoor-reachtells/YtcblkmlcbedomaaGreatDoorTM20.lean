/- Parts of the proof that stand ahead of it (T 20). -/
import Derived.Test.YtcblkmlcbedomaaGreatDoorTM18
import Derived.Test.YtcblkmlcbedomaaGreatDoorTM14
set_option linter.unusedVariables false
set_option linter.unusedSimpArgs false
set_option maxRecDepth 20000
set_option maxHeartbeats 16000000
namespace Go.Proofs.YtcblkmlcbedomaaGreatDoor.T
open Go.RowKit
def Yk (b:Bool):Nat→List Int→List (Int×Int)×Nat
 |0,_=>([],0)
 |f+1,r=>match yz b r with
  |none=>([],0)
  |some (x,n)=>(x::(Yk b f (r.drop n)).1,n+(Yk b f (r.drop n)).2)
theorem item_nil (b:Bool):yz b []=none:=by
 cases b
 ·rfl
 ·have:ZZ []= -1:=by decide
  unfold yz ja
  simp[this]
theorem Y6 (b:Bool):∀f,Yk b f []=([],0):=by
 intro f
 cases f with
 |zero=>rfl
 |succ f=>simp only[Yk,item_nil]
theorem items_fuel (b:Bool):∀(f g:Nat) (r:List Int),U.zv r→r.length≤f→r.length≤g→Yk b f r=Yk b g r:=by
 intro f
 induction f with
 |zero=>
  intro g r hb h1 h2
  have:r=[]:=List.eq_nil_of_length_eq_zero (by omega)
  subst this
  rw[Y6,Y6]
 |succ f ih=>
  intro g r hb h1 h2
  cases g with
  |zero=>
   have:r=[]:=List.eq_nil_of_length_eq_zero (by omega)
   subst this
   rw[Y6,Y6]
  |succ g=>
   simp only[Yk]
   cases e:yz b r with
   |none=>rfl
   |some p=>
    obtain⟨x,n⟩:=p
    have:=qv b r x n hb e
    simp only
    rw[ih g (r.drop n) (U.zZ hb n) (by rw[List.length_drop];omega) (by rw[List.length_drop];omega)]
def zV (b:Bool) (r:List Int):List (Int×Int)×Nat:=Yk b r.length r
theorem jo {b:Bool} {r:List Int} (h:yz b r=none):zV b r=([],0):=by
 unfold zV
 cases e:r.length with
 |zero=>rfl
 |succ f=>simp only[Yk,h]
theorem YK {b:Bool} {r:List Int} (hb:U.zv r) {x:Int×Int} {n:Nat} (h:yz b r=some (x,n)):zV b r=(x::(zV b (r.drop n)).1,n+(zV b (r.drop n)).2):=by
 have hn:=qv b r x n hb h
 unfold zV
 obtain⟨k,hk⟩:∃k,r.length=k+1:=⟨r.length-1,by omega⟩
 rw[hk]
 simp only[Yk,h]
 rw[items_fuel b k (r.drop n).length (r.drop n) (U.zZ hb n) (by rw[List.length_drop];omega) (Nat.le_refl _)]
theorem items_len (b:Bool):∀(f:Nat) (r:List Int),U.zv r→r.length≤f→(zV b r).2≤r.length∧(zV b r).1.length≤(zV b r).2:=by
 intro f
 induction f with
 |zero=>
  intro r hb h
  have:r=[]:=List.eq_nil_of_length_eq_zero (by omega)
  subst this
  rw[jo (item_nil b)]
  simp
 |succ f ih=>
  intro r hb h
  cases e:yz b r with
  |none=>rw[jo e];simp
  |some p=>
   obtain⟨x,n⟩:=p
   have hn:=qv b r x n hb e
   have:=ih (r.drop n) (U.zZ hb n) (by rw[List.length_drop];omega)
   rw[List.length_drop]at this
   rw[YK hb e]
   simp only[List.length_cons]
   omega
theorem items_gather {b:Bool} {stop:Int} (h0:stop≠0) (hs:∀r:List Int,r.getD 0 0=stop→yz b r=none):∀(f:Nat) (r:List Int),U.zv r→r.length≤f→
  yu (yz b) stop r=if (r.drop (zV b r).2).getD 0 0=stop then some ((zV b r).1,(zV b r).2+1)else none:=by
 intro f
 induction f with
 |zero=>
  intro r hb h
  have:r=[]:=List.eq_nil_of_length_eq_zero (by omega)
  subst this
  rw[jo (item_nil b),jQ,if_neg (by simp[List.getD];omega)]
 |succ f ih=>
  intro r hb h
  by_cases hr:r=[]
  ·subst hr
   rw[jo (item_nil b),jQ,if_neg (by simp[List.getD];omega)]
  ·by_cases hst:r.getD 0 0=stop
   ·rw[jo (hs r hst),vi hr hst,List.drop_zero,if_pos hst]
   ·cases e:yz b r with
    |none=>rw[Xz hr hst e,jo e,List.drop_zero,if_neg hst]
    |some p=>
     obtain⟨x,n⟩:=p
     have hn:=qv b r x n hb e
     rw[vo (qv b) hb hr hst e,ih (r.drop n) (U.zZ hb n) (by rw[List.length_drop];omega),YK hb e,List.drop_drop]
     by_cases cc:(List.drop (n+(zV b (r.drop n)).2) r).getD 0 0=stop
     ·rw[if_pos cc,if_pos cc]
      simp only[Option.some.injEq,Prod.mk.injEq,true_and]
      omega
     ·rw[if_neg cc,if_neg cc]
theorem j5 {W W':World} (h:Below W.heap.size W W') {base:Nat} {e:TypeId} {size:Nat} {v:Value} {n:Nat} {xs:List Value} (ho:W.ownsRow base e size v n xs):W'.ownsRow base e size v n xs:=
 ho.kept (show W.grownBy W' none from⟨h.os,h.tape,h.output,h.size,fun k hk _=>h.block k hk⟩) (by cases v.ownBlock<;>simp)
theorem below_app2 {B:Nat} {w w1:World} {o1 o2:Obj} {e:TypeId} {sz n:Nat} {v:Value} {xs:List Value} (h:w.ownsRow B e sz v n xs) (hB:B≤w.heap.size) (hg:((w.alloc o1).alloc o2).grownBy w1 v.ownBlock):Below B w w1:=
 (((Below.refl B w).alloc hB _).alloc (by simp;omega) _).grown hg (by simp;omega) (fun k hk=>(h.lt k hk).1)
theorem itemsH (a:Option Addr) (len cap:Nat) (l:List Int) (w:World) (h:Bs w a len cap l) (hl:len≤100000):
  Calls Tryz.prog 186 #[.slice a len cap,.func (.func 191) #[] #[]] w fun e w'=>∃v,e= .returned (.tuple #[v,.int .i64 ((zV true l).2:Nat)])∧Ow w' w.heap.size v (zV true l).1∧Below w.heap.size w w':=by
 have hlen:=h.hlen
 have hcap:=h.hcap
 have hbb:=h.hbytes
 have HB:=zk h
 have HBB:=zk hbb
 obtain⟨i0,hi0,hz0,hz1,hz2⟩:=info_parts infoRg
 clear h hbb
 go_enter Tryz.func186,Tryz.ntmps186
 go_wp2_with fail
 go_loopw [6,7] (fun v j wr=>∃(k:Nat) (out:List (Int×Int)),k≤len∧out.length≤k∧j= .int .i64 (k:Int)∧Hid (zV true l=(out++(zV true (l.drop k)).1,k+(zV true (l.drop k)).2))∧wr.ownsRow w.heap.size 51 2 v out.length (yx out)∧Below w.heap.size w wr) (fun _ j _=>len-(intOf j).toNat)
 case atStart=>exact⟨0,[],Nat.zero_le _,Nat.le_refl _,rfl,by show _=_;simp,World.ownsRow_nil _ _ _ _,Below.refl _ _⟩
 case round=>
  obtain⟨k,out,hk,hok,rfl,hg,hown,hb⟩:=hrel
  have hB:=Bs.later (zq HB) hb (Nat.le_refl _)
  have sl:=xk a len cap k k rfl hk
  have CI:=zk (itemH _ _ _ _ wr (Bs.dropA hB k hk) (by omega))
  have HO:=zk hown
  have hws:=hb.size
  cases e1:yz true (l.drop k)with
  |none=>
   have HG:Hid (zV true l=(out,k)):=by
    show _=_
    rw[hg.out,jo e1]
    simp
   rw[e1]at CI
   replace CI:Hid (Calls Tryz.prog 213 #[.slice (dropA a cap k) (len-k) (cap-k),.func (.func 191) #[] #[]] wr fun e w'=>e= .returned (.tuple #[.agg #[.int .i64 0,.int .i64 0],.int .i64 0])∧Below wr.heap.size wr w'):=CI
   clear e1 hg hB HB HBB hown
   go_wp2_with fail
   refine(zq CI).mono ?_
   rintro e w1 ⟨rfl,b1⟩
   clear CI
   go_wp2_with fail
   go_ret2
   refine⟨u6,?_,?_,?_⟩
   rotate_left
   ·rw[zq HG]
    exact(j5 b1 (zq HO)).alloc _
   ·exact(hb.trans (b1.mono hws)).alloc (by have:=b1.size;omega) _
   ·rw[zq HG]
    rfl
  |some p=>
   obtain⟨⟨lo,hi⟩,n⟩:=p
   have gd:=qv true _ _ n (U.zZ (zq HBB) k) e1
   rw[List.length_drop]at gd
   have HG:Hid (zV true l=((out++[(lo,hi)])++(zV true (l.drop (k+n))).1,k+n+(zV true (l.drop (k+n))).2)):=by
    show _=_
    rw[hg.out,YK (U.zZ (zq HBB) k) e1,List.drop_drop]
    simp only[List.append_assoc,List.singleton_append,Prod.mk.injEq,true_and]
    omega
   rw[e1]at CI
   replace CI:Hid (Calls Tryz.prog 213 #[.slice (dropA a cap k) (len-k) (cap-k),.func (.func 191) #[] #[]] wr fun e w'=>e= .returned (.tuple #[.agg #[.int .i64 lo,.int .i64 hi],.int .i64 (n:Int)])∧Below wr.heap.size wr w'):=CI
   have t0:((n:Int)==0)=false:=beq_eq_false_iff_ne.2 (by omega)
   clear e1 hg hB HB HBB hown
   go_wp2_with fail
   refine(zq CI).mono ?_
   rintro e w1 ⟨rfl,b1⟩
   clear CI
   have ho1:=j5 b1 (zq HO)
   have hb1:=hb.trans (b1.mono hws)
   have hs1:=hb1.size
   clear HO
   go_wp2_with (at_builtin;refine wpList_append_lies _ rfl _ _ 39 rfl w.heap.size 51 i0 _ 2 16 Tryz.underlying39 hi0 hz0 hz1 hz2 rfl (by omega) _ _ _ rfl ((ho1.alloc _).alloc _) ⟨w1.heap.size+1,0,none⟩ 1 1 [.int .i64 lo,.int .i64 hi] rfl rfl (jW _ _ _ _ (by simp)) (by simp[Value.oneCell']) (by omega) (by unfold maxLen;omega) (by omega) (by simp;omega) (w1.heap.size+2) (by simp) ?_;intro gg cap1 w2 hown1 hgrow hat hlt1)
   go_roundw
   case rel=>exact⟨k+n,out++[(lo,hi)],by omega,by simp;omega,by go_num,HG,by rw[yj,List.length_append];exact hown1,hb1.trans (below_app2 ho1 hs1 hgrow)⟩
   case measure=>simp[intOf];omega
theorem itemsS (a:Option Addr) (len cap:Nat) (l:List Int) (w:World) (h:Bs w a len cap l) (hl:len≤100000):
  Calls Tryz.prog 186 #[.slice a len cap,.func (.func 187) #[] #[]] w fun e w'=>∃v,e= .returned (.tuple #[v,.int .i64 ((zV false l).2:Nat)])∧Ow w' w.heap.size v (zV false l).1∧Below w.heap.size w w':=by
 have hlen:=h.hlen
 have hcap:=h.hcap
 have hbb:=h.hbytes
 have HB:=zk h
 have HBB:=zk hbb
 obtain⟨i0,hi0,hz0,hz1,hz2⟩:=info_parts infoRg
 clear h hbb
 go_enter Tryz.func186,Tryz.ntmps186
 go_wp2_with fail
 go_loopw [6,7] (fun v j wr=>∃(k:Nat) (out:List (Int×Int)),k≤len∧out.length≤k∧j= .int .i64 (k:Int)∧Hid (zV false l=(out++(zV false (l.drop k)).1,k+(zV false (l.drop k)).2))∧wr.ownsRow w.heap.size 51 2 v out.length (yx out)∧Below w.heap.size w wr) (fun _ j _=>len-(intOf j).toNat)
 case atStart=>exact⟨0,[],Nat.zero_le _,Nat.le_refl _,rfl,by show _=_;simp,World.ownsRow_nil _ _ _ _,Below.refl _ _⟩
 case round=>
  obtain⟨k,out,hk,hok,rfl,hg,hown,hb⟩:=hrel
  have hB:=Bs.later (zq HB) hb (Nat.le_refl _)
  have sl:=xk a len cap k k rfl hk
  have CI:=zk (itemS _ _ _ _ wr (Bs.dropA hB k hk) (by omega))
  have HO:=zk hown
  have hws:=hb.size
  cases e1:yz false (l.drop k)with
  |none=>
   have HG:Hid (zV false l=(out,k)):=by
    show _=_
    rw[hg.out,jo e1]
    simp
   rw[e1]at CI
   replace CI:Hid (Calls Tryz.prog 213 #[.slice (dropA a cap k) (len-k) (cap-k),.func (.func 187) #[] #[]] wr fun e w'=>e= .returned (.tuple #[.agg #[.int .i64 0,.int .i64 0],.int .i64 0])∧Below wr.heap.size wr w'):=CI
   clear e1 hg hB HB HBB hown
   go_wp2_with fail
   refine(zq CI).mono ?_
   rintro e w1 ⟨rfl,b1⟩
   clear CI
   go_wp2_with fail
   go_ret2
   refine⟨u6,?_,?_,?_⟩
   rotate_left
   ·rw[zq HG]
    exact(j5 b1 (zq HO)).alloc _
   ·exact(hb.trans (b1.mono hws)).alloc (by have:=b1.size;omega) _
   ·rw[zq HG]
    rfl
  |some p=>
   obtain⟨⟨lo,hi⟩,n⟩:=p
   have gd:=qv false _ _ n (U.zZ (zq HBB) k) e1
   rw[List.length_drop]at gd
   have HG:Hid (zV false l=((out++[(lo,hi)])++(zV false (l.drop (k+n))).1,k+n+(zV false (l.drop (k+n))).2)):=by
    show _=_
    rw[hg.out,YK (U.zZ (zq HBB) k) e1,List.drop_drop]
    simp only[List.append_assoc,List.singleton_append,Prod.mk.injEq,true_and]
    omega
   rw[e1]at CI
   replace CI:Hid (Calls Tryz.prog 213 #[.slice (dropA a cap k) (len-k) (cap-k),.func (.func 187) #[] #[]] wr fun e w'=>e= .returned (.tuple #[.agg #[.int .i64 lo,.int .i64 hi],.int .i64 (n:Int)])∧Below wr.heap.size wr w'):=CI
   have t0:((n:Int)==0)=false:=beq_eq_false_iff_ne.2 (by omega)
   clear e1 hg hB HB HBB hown
   go_wp2_with fail
   refine(zq CI).mono ?_
   rintro e w1 ⟨rfl,b1⟩
   clear CI
   have ho1:=j5 b1 (zq HO)
   have hb1:=hb.trans (b1.mono hws)
   have hs1:=hb1.size
   clear HO
   go_wp2_with (at_builtin;refine wpList_append_lies _ rfl _ _ 39 rfl w.heap.size 51 i0 _ 2 16 Tryz.underlying39 hi0 hz0 hz1 hz2 rfl (by omega) _ _ _ rfl ((ho1.alloc _).alloc _) ⟨w1.heap.size+1,0,none⟩ 1 1 [.int .i64 lo,.int .i64 hi] rfl rfl (jW _ _ _ _ (by simp)) (by simp[Value.oneCell']) (by omega) (by unfold maxLen;omega) (by omega) (by simp;omega) (w1.heap.size+2) (by simp) ?_;intro gg cap1 w2 hown1 hgrow hat hlt1)
   go_roundw
   case rel=>exact⟨k+n,out++[(lo,hi)],by omega,by simp;omega,by go_num,HG,by rw[yj,List.length_append];exact hown1,hb1.trans (below_app2 ho1 hs1 hgrow)⟩
   case measure=>simp[intOf];omega
end Go.Proofs.YtcblkmlcbedomaaGreatDoor.T

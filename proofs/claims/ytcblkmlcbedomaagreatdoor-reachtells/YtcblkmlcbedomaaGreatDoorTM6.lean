/- Parts of the proof that stand ahead of it (T 6). -/
import Derived.Deep.AppendLies
import Derived.Test.YtcblkmlcbedomaaGreatDoorTM5
set_option linter.unusedVariables false
set_option linter.unusedSimpArgs false
set_option maxRecDepth 20000
set_option maxHeartbeats 16000000
namespace Go.Proofs.YtcblkmlcbedomaaGreatDoor
open Go.RowKit
theorem infoRg:(Tryz.prog.info? 51).map (fun i=>(i.zero,i.size,i.bytes))=some (some (.agg #[.int .i64 0,.int .i64 0]),2,16):=by kernel_rfl
def yx (l:List (Int×Int)):List Value:=l.flatMap fun r=> [.int .i64 r.1,.int .i64 r.2]
theorem yj (a b:List (Int×Int)):yx (a++b)=yx a++yx b:=by simp[yx]
theorem yo (l:List (Int×Int)):(yx l).length=l.length*2:=by
 induction l with
 |nil=>rfl
 |cons r t ih=>simp[yx]at*;omega
theorem cellsL_at (l:List (Int×Int)) (i:Nat) (hi:i<l.length):(yx l)[i*2]? =some (.int .i64 (l.getD i (0,0)).1)∧(yx l)[i*2+1]? =some (.int .i64 (l.getD i (0,0)).2):=by
 induction l generalizing i with
 |nil=>simp at hi
 |cons r t ih=>
  have e:yx (r::t)= .int .i64 r.1:: .int .i64 r.2::yx t:=rfl
  rw[e]
  cases i with
  |zero=>simp
  |succ i=>
   have:=ih i (by simpa using hi)
   rw[show(i+1)*2=i*2+1+1 by omega]
   simpa using this
def Ow (w:World) (base:Nat) (v:Value) (l:List (Int×Int)):Prop:=w.ownsRow base 51 2 v l.length (yx l)
theorem Ow.rs {w:World} {base:Nat} {v:Value} {l:List (Int×Int)} (h:Ow w base v l) (hf:∀r∈l,yQ r.1∧yQ r.2):∃a cap,v= .slice a l.length cap∧Rs w a l.length cap l:=by
 rcases h.2 with ⟨rfl,h0⟩|⟨g,cap,cur,rfl,hb,hg,hn,hm,hs,ht⟩
 ·have:l=[]:=List.eq_nil_of_length_eq_zero h0
  subst this
  exact⟨none,0,rfl,Rs.nil w⟩
 ·refine⟨_,cap,rfl,rfl,hn,hm,hf,fun i hi=>⟨g,0,rfl,?_⟩⟩
  have c:∀(j:Nat) (u:Value),(yx l)[j]? =some u→w.cell? ⟨g,0+j,none⟩=some u:=by
   intro j u hj
   have:=World.ownsRow.cells h (g:=g) rfl j u hj
   rw[show(⟨g,0,none⟩:Addr).add j=⟨g,0+j,none⟩ from by rw[Addr.add_lit]]at this
   exact this
  have k:=cellsL_at l i hi
  exact⟨c _ _ k.1,c _ _ k.2⟩
def clip1 (r:Int×Int):Int×Int:=(max r.1 0,min r.2 1114111)
def xX (l:List (Int×Int)):List (Int×Int):=(l.map clip1).filter fun r=>decide (r.1≤r.2)
theorem qY (a b:List (Int×Int)):xX (a++b)=xX a++xX b:=by simp[xX]
theorem clipL_mem {l:List (Int×Int)} {r:Int×Int} (h:r∈xX l):0≤r.1∧r.1≤r.2∧r.2≤1114111:=by
 unfold xX at h
 rw[List.mem_filter,List.mem_map]at h
 obtain⟨⟨x,_,rfl⟩,h⟩:=h
 have h:=of_decide_eq_true h
 unfold clip1 at*
 simp only at*
 omega
theorem clipL_length (l:List (Int×Int)):(xX l).length≤l.length:=by
 unfold xX
 exact Nat.le_trans (List.length_filter_le _ _) (by simp)
theorem clipL_has (l:List (Int×Int)) (n:Int):G.hasB (xX l) n=(G.dom n&&G.hasB l n):=by
 induction l with
 |nil=>simp[xX,G.hasB]
 |cons r t ih=>
  have e:xX (r::t)=xX [r]++xX t:=by rw[←qY];rfl
  rw[e,G.qZ,ih,G.yK]
  have k:G.hasB (xX [r]) n=(G.dom n&&(decide (r.1≤n)&&decide (n≤r.2))):=by
   unfold xX clip1 G.dom
   by_cases c:max r.1 0≤min r.2 1114111
   ·simp only[List.map_cons,List.map_nil,List.filter_cons,List.filter_nil,decide_eq_true c,if_true,G.jY]
    rw[Bool.eq_iff_iff];simp only[Bool.and_eq_true,decide_eq_true_eq];omega
   ·simp only[List.map_cons,List.map_nil,List.filter_cons,List.filter_nil,decide_eq_false c,Bool.false_eq_true,if_false,G.YV]
    symm
    rw[Bool.eq_false_iff];simp only[ne_eq,Bool.and_eq_true,decide_eq_true_eq];omega
  rw[k]
  cases G.dom n<;>simp
theorem fits_clip {l:List (Int×Int)} {r:Int×Int} (h:r∈xX l):yQ r.1∧yQ r.2:=by
 have:=clipL_mem h
 unfold yQ;omega
theorem clip_yes (lo hi x y:Int) (hx:max lo 0=x) (hy:min hi 1114111=y) (h:x≤y):xX [(lo,hi)]=[(x,y)]:=by
 subst hx;subst hy
 simp[xX,clip1,h]
theorem clip_no (lo hi:Int) (h:¬max lo 0≤min hi 1114111):xX [(lo,hi)]=[]:=by
 simp[xX,clip1,h]
theorem own_mono {W:World} {base base':Nat} {e:TypeId} {size:Nat} {v:Value} {n:Nat} {xs:List Value} (h:W.ownsRow base e size v n xs) (hb:base'≤base):W.ownsRow base' e size v n xs:=by
 refine⟨h.1,?_⟩
 rcases h.2 with hn|⟨g,cap,cur,hv,hg,rest⟩
 ·exact .inl hn
 ·exact .inr ⟨g,cap,cur,hv,by omega,rest⟩
theorem xu {W:World} {base:Nat} {e:TypeId} {size:Nat} {v:Value} {n:Nat} {xs:List Value} (h:W.ownsRow base e size v n xs):∃a cap,v= .slice a n cap:=by
 rcases h.2 with ⟨rfl,h0⟩|⟨g,cap,cur,hv,_⟩
 ·exact⟨none,0,by rw[h0]⟩
 ·exact⟨_,cap,hv⟩
theorem jW (w:World) (n:Nat) (x y:Int) (hn:n=w.heap.size):∀(j:Nat) (u:Value),[Value.int .i64 x,.int .i64 y][j]? =some u→(w.alloc (.cells #[.int .i64 x,.int .i64 y] 51)).cell? ((⟨n,0,none⟩:Addr).add j)=some u:=by
 subst hn
 exact World.news_of_block (cs:= #[.int .i64 x,.int .i64 y]) (t:=51) (fr:=(0,0)) (heap_alloc_new w _)
theorem ZY {B:Nat} {w w1:World} {o1 o2 o3:Obj} {e:TypeId} {sz n:Nat} {v:Value} {xs:List Value} (h:w.ownsRow B e sz v n xs) (hB:B≤w.heap.size) (hg:(((w.alloc o1).alloc o2).alloc o3).grownBy w1 v.ownBlock):Below B w w1:=
 ((((Below.refl B w).alloc hB _).alloc (by simp;omega) _).alloc (by simp;omega) _).grown hg (by simp;omega) (fun k hk=>(h.lt k hk).1)
theorem clipped_any (a:Option Addr) (len cap:Nat) (l:List (Int×Int)) (w:World) (h:Rs w a len cap l) (hs:len≤1000000):
  Calls Tryz.prog 217 #[.slice a len cap] w fun e w'=>∃v,e= .returned v∧Ow w' w.heap.size v (xX l)∧Below w.heap.size w w':=by
 have hl:=h.hlen
 have hmax:=h.hmax
 have hcap:=h.hcap
 unfold maxLen at hmax
 obtain⟨i0,hi0,hz0,hz1,hz2⟩:=info_parts infoRg
 go_enter Tryz.func217,Tryz.ntmps217
 go_wp2
 go_loopw [3,9] (fun v i wr=>∃(k:Nat) (out:List (Int×Int)),k≤len∧i= .int .i64 k∧Hid (out=xX (l.take k))∧out.length≤k∧wr.ownsRow w.heap.size 51 2 v out.length (yx out)∧Below w.heap.size w wr) (fun _ i _=>len-(intOf i).toNat)
 case atStart=>exact⟨0,[],Nat.zero_le _,rfl,by show []=_;simp[xX],Nat.le_refl _,World.ownsRow_nil _ _ _ _,Below.refl _ _⟩
 case round=>
  obtain⟨k,out,hk,rfl,ho,hol,hown,hb⟩:=hrel
  by_cases hlt:k<len
  ·obtain⟨b,off,rfl,hr⟩:=(h.later hb (Nat.le_refl _)).open (by omega)
   obtain⟨lo,hi,-,hd,f1,f2,c0,c1⟩:=hr.at k hlt
   unfold yQ at f1 f2
   have hd':Hid (l.take (k+1)=l.take k++[(lo,hi)]):=hd
   clear hd hr
   have key:(lo<0∧1114111<hi)∨(lo<0∧hi≤1114111∧0≤hi)∨(0≤lo∧1114111<hi∧lo≤1114111)∨(0≤lo∧hi≤1114111∧lo≤hi)∨(lo<0∧hi≤1114111∧hi<0)∨(0≤lo∧1114111<hi∧1114111<lo)∨(0≤lo∧hi≤1114111∧hi<lo):=by omega
   rcases key with ⟨t1,t2⟩|⟨t1,t2,t3⟩|⟨t1,t2,t3⟩|⟨t1,t2,t3⟩|⟨t1,t2,t3⟩|⟨t1,t2,t3⟩|⟨t1,t2,t3⟩
   ·have st:Hid (out++[(0,1114111)]=xX (l.take (k+1))):=by
     show _=_
     rw[hd'.out,qY,←ho.out,clip_yes lo hi 0 1114111 (by omega) (by omega) (by omega)]
    go_wp2_with (at_builtin;refine wpList_append_lies _ rfl _ _ 39 rfl w.heap.size 51 i0 _ 2 16 Tryz.underlying39 hi0 hz0 hz1 hz2 rfl (by omega) _ _ _ rfl (((hown.alloc _).alloc _).alloc _) ⟨wr.heap.size+2,0,none⟩ 1 1 [.int .i64 0,.int .i64 1114111] rfl rfl (jW _ _ _ _ (by simp)) (by simp[Value.oneCell']) (by omega) (by unfold maxLen;omega) (by omega) (by have:=hb.size;simp;omega) (wr.heap.size+3) (by simp) ?_;intro gg cap1 w1 hown1 hgrow hat hlt1)
    go_roundw
    case rel=>exact⟨k+1,out++[(0,1114111)],by omega,by go_num,st,by simp;omega,by rw[yj,List.length_append];exact hown1,hb.trans (ZY hown hb.size hgrow)⟩
    case measure=>simp[intOf];omega
   ·have st:Hid (out++[(0,hi)]=xX (l.take (k+1))):=by
     show _=_
     rw[hd'.out,qY,←ho.out,clip_yes lo hi 0 hi (by omega) (by omega) (by omega)]
    go_wp2_with (at_builtin;refine wpList_append_lies _ rfl _ _ 39 rfl w.heap.size 51 i0 _ 2 16 Tryz.underlying39 hi0 hz0 hz1 hz2 rfl (by omega) _ _ _ rfl (((hown.alloc _).alloc _).alloc _) ⟨wr.heap.size+2,0,none⟩ 1 1 [.int .i64 0,.int .i64 hi] rfl rfl (jW _ _ _ _ (by simp)) (by simp[Value.oneCell']) (by omega) (by unfold maxLen;omega) (by omega) (by have:=hb.size;simp;omega) (wr.heap.size+3) (by simp) ?_;intro gg cap1 w1 hown1 hgrow hat hlt1)
    go_roundw
    case rel=>exact⟨k+1,out++[(0,hi)],by omega,by go_num,st,by simp;omega,by rw[yj,List.length_append];exact hown1,hb.trans (ZY hown hb.size hgrow)⟩
    case measure=>simp[intOf];omega
   ·have st:Hid (out++[(lo,1114111)]=xX (l.take (k+1))):=by
     show _=_
     rw[hd'.out,qY,←ho.out,clip_yes lo hi lo 1114111 (by omega) (by omega) (by omega)]
    go_wp2_with (at_builtin;refine wpList_append_lies _ rfl _ _ 39 rfl w.heap.size 51 i0 _ 2 16 Tryz.underlying39 hi0 hz0 hz1 hz2 rfl (by omega) _ _ _ rfl (((hown.alloc _).alloc _).alloc _) ⟨wr.heap.size+2,0,none⟩ 1 1 [.int .i64 lo,.int .i64 1114111] rfl rfl (jW _ _ _ _ (by simp)) (by simp[Value.oneCell']) (by omega) (by unfold maxLen;omega) (by omega) (by have:=hb.size;simp;omega) (wr.heap.size+3) (by simp) ?_;intro gg cap1 w1 hown1 hgrow hat hlt1)
    go_roundw
    case rel=>exact⟨k+1,out++[(lo,1114111)],by omega,by go_num,st,by simp;omega,by rw[yj,List.length_append];exact hown1,hb.trans (ZY hown hb.size hgrow)⟩
    case measure=>simp[intOf];omega
   ·have st:Hid (out++[(lo,hi)]=xX (l.take (k+1))):=by
     show _=_
     rw[hd'.out,qY,←ho.out,clip_yes lo hi lo hi (by omega) (by omega) (by omega)]
    go_wp2_with (at_builtin;refine wpList_append_lies _ rfl _ _ 39 rfl w.heap.size 51 i0 _ 2 16 Tryz.underlying39 hi0 hz0 hz1 hz2 rfl (by omega) _ _ _ rfl (((hown.alloc _).alloc _).alloc _) ⟨wr.heap.size+2,0,none⟩ 1 1 [.int .i64 lo,.int .i64 hi] rfl rfl (jW _ _ _ _ (by simp)) (by simp[Value.oneCell']) (by omega) (by unfold maxLen;omega) (by omega) (by have:=hb.size;simp;omega) (wr.heap.size+3) (by simp) ?_;intro gg cap1 w1 hown1 hgrow hat hlt1)
    go_roundw
    case rel=>exact⟨k+1,out++[(lo,hi)],by omega,by go_num,st,by simp;omega,by rw[yj,List.length_append];exact hown1,hb.trans (ZY hown hb.size hgrow)⟩
    case measure=>simp[intOf];omega
   ·have st:Hid (out=xX (l.take (k+1))):=by
     show _=_
     rw[hd'.out,qY,←ho.out,clip_no lo hi (by omega),List.append_nil]
    go_wp2
    go_roundw
    case rel=>exact⟨k+1,out,by omega,by go_num,st,by omega,(hown.alloc _).alloc _,hb.trans (((Below.new1 _).alloc (by simp) _).mono hb.size)⟩
    case measure=>simp[intOf];omega
   ·have st:Hid (out=xX (l.take (k+1))):=by
     show _=_
     rw[hd'.out,qY,←ho.out,clip_no lo hi (by omega),List.append_nil]
    go_wp2
    go_roundw
    case rel=>exact⟨k+1,out,by omega,by go_num,st,by omega,(hown.alloc _).alloc _,hb.trans (((Below.new1 _).alloc (by simp) _).mono hb.size)⟩
    case measure=>simp[intOf];omega
   ·have st:Hid (out=xX (l.take (k+1))):=by
     show _=_
     rw[hd'.out,qY,←ho.out,clip_no lo hi (by omega),List.append_nil]
    go_wp2
    go_roundw
    case rel=>exact⟨k+1,out,by omega,by go_num,st,by omega,(hown.alloc _).alloc _,hb.trans (((Below.new1 _).alloc (by simp) _).mono hb.size)⟩
    case measure=>simp[intOf];omega
  ·have hk2:k=len:=by omega
   subst hk2
   have ho':=ho.out
   rw[List.take_of_length_le (by omega)]at ho'
   subst ho'
   clear ho
   go_wp2
   go_ret
   exact⟨_,rfl,hown,hb⟩
end Go.Proofs.YtcblkmlcbedomaaGreatDoor

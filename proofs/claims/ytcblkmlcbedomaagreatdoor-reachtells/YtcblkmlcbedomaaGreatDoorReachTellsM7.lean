/- Parts of the proof that stand ahead of it (ReachTells 7). -/
import Derived.BigQuiet
import Derived.Test.YtcblkmlcbedomaaGreatDoorRM3
import Derived.Test.YtcblkmlcbedomaaGreatDoorReachTellsM1
import Derived.Test.YtcblkmlcbedomaaGreatDoorTM24
set_option linter.unusedVariables false
set_option linter.unusedSimpArgs false
set_option maxRecDepth 20000
set_option maxHeartbeats 16000000
namespace Go.Proofs.YtcblkmlcbedomaaGreatDoor
open Go.RowKit
theorem draws_below {w:World} {k:Nat} {B:Nat}:Below B w (w.drewN k):=⟨rfl,rfl,rfl,Nat.le_refl _,fun _ _=>rfl⟩
end Go.Proofs.YtcblkmlcbedomaaGreatDoor
set_option linter.unusedVariables false
set_option linter.unusedSimpArgs false
set_option maxRecDepth 20000
set_option maxHeartbeats 16000000
namespace Go.Proofs.YtcblkmlcbedomaaGreatDoor
open Go.RowKit Go.Shelf
theorem sizeL_take {l:List (Int×Int)} {k:Nat} {lo hi:Int} (h:l.take (k+1)=l.take k++[(lo,hi)]):G.sizeL (l.take (k+1))=G.sizeL (l.take k)+(hi-lo+1):=by
 rw[h,G.sizeL_append];simp[G.sizeL]
theorem may_take {l:List (Int×Int)} (h:G.zo l=true) (k:Nat):G.zo (l.take k)=true:=by
 have e:l=l.take k++l.drop k:=(List.take_append_drop k l).symm
 unfold G.zo at*
 rw[e,G.mayFrom_append]at h
 exact h.1
end Go.Proofs.YtcblkmlcbedomaaGreatDoor
namespace Go.Proofs.YtcblkmlcbedomaaGreatDoor
open Go.RowKit
theorem refHas_any (a:Option Addr) (len cap:Nat) (l:List (Int×Int)) (n:Int) (w:World) (h:Rs w a len cap l):
  Calls Tryz.prog 208 #[.slice a len cap,.int .i64 n] w fun e w'=>e= .returned (.bool (G.hasB l n))∧w'=w:=by
 have hl:=h.hlen
 have hmax:=h.hmax
 have hcap:=h.hcap
 unfold maxLen at hmax
 go_enter Tryz.func208,Tryz.ntmps208
 go_wp2
 go_loop [5] (fun i=>∃(k:Nat),k≤len∧i= .int .i64 k∧Hid (G.hasB (l.drop k) n=G.hasB l n)) (fun i=>len-(intOf i).toNat)
 case atStart=>exact⟨0,Nat.zero_le _,rfl,by show G.hasB l n=G.hasB l n;rfl⟩
 case round=>
  obtain⟨k,hk,rfl,hn⟩:=hrel
  by_cases hlt:k<len
  ·obtain⟨b,off,rfl,hr⟩:=h.open (by omega)
   obtain⟨lo,hi,hd,-,f1,f2,c0,c1⟩:=hr.at k hlt
   have hd':Hid (l.drop k=(lo,hi)::l.drop (k+1)):=hd
   clear hd hr f1 f2 h
   by_cases t1:lo≤n
   ·by_cases t2:n≤hi
    ·have fin:Hid (G.hasB l n=true):=by
      show G.hasB l n=true
      rw[←hn.out,hd'.out,G.yK];simp[t1,t2]
     go_wp2
     go_ret
     exact⟨ret_bool fin.out.symm,rfl⟩
    ·have fin:Hid (G.hasB (l.drop (k+1)) n=G.hasB l n):=by
      show _=_
      rw[←hn.out,hd'.out,G.yK];simp[t2]
     have t2':hi<n:=by omega
     go_wp2
     go_round
     case rel=>exact⟨k+1,by omega,by go_num,fin⟩
     case measure=>simp[intOf];omega
   ·have fin:Hid (G.hasB (l.drop (k+1)) n=G.hasB l n):=by
     show _=_
     rw[←hn.out,hd'.out,G.yK];simp[t1]
    have t1':n<lo:=by omega
    go_wp2
    go_round
    case rel=>exact⟨k+1,by omega,by go_num,fin⟩
    case measure=>simp[intOf];omega
  ·have fin:Hid (G.hasB l n=false):=by
    show _=_
    rw[←hn.out,List.drop_of_length_le (by omega)];rfl
   clear h
   go_wp2
   go_ret
   exact⟨ret_bool fin.out.symm,rfl⟩
def bdI (l:List (Int×Int)) (n:Int) (k:Nat) (r:Int):Prop:=∀p∈l.take k,(n<p.1→r≤p.1)∧(n≤p.2→r≤p.2+1)
theorem bdI_step {l:List (Int×Int)} {n:Int} {k:Nat} {r r' lo hi:Int} (h:bdI l n k r) (ht:l.take (k+1)=l.take k++[(lo,hi)]) (hr:r'≤r) (h1:n<lo→r'≤lo) (h2:n≤hi→r'≤hi+1):bdI l n (k+1) r':=by
 intro p hp
 rw[ht]at hp
 rcases List.mem_append.1 hp with hp|hp
 ·have:=h p hp
  exact⟨fun x=>Int.le_trans hr (this.1 x),fun x=>Int.le_trans hr (this.2 x)⟩
 ·simp at hp;subst hp;exact⟨h1,h2⟩
theorem bdI_same {l:List (Int×Int)} {n:Int} {k:Nat} {r:Int} (h:bdI l n k r) (hk:l.length≤k) {m:Int} (h1:n≤m) (h2:m<r):G.hasB l m=G.hasB l n:=by
 unfold bdI at h
 rw[List.take_of_length_le hk]at h
 unfold G.hasB
 rw[Bool.eq_iff_iff,List.any_eq_true,List.any_eq_true]
 constructor
 ·rintro⟨p,hp,hx⟩
  refine⟨p,hp,?_⟩
  have:=h p hp
  simp only[Bool.and_eq_true,decide_eq_true_eq]at*
  by_cases c:n<p.1
  ·have:=this.1 c;omega
  ·omega
 ·rintro⟨p,hp,hx⟩
  refine⟨p,hp,?_⟩
  have:=h p hp
  simp only[Bool.and_eq_true,decide_eq_true_eq]at*
  have:=this.2 hx.2
  omega
theorem refBorder_any (a:Option Addr) (len cap:Nat) (l:List (Int×Int)) (n best:Int) (w:World) (h:Rs w a len cap l) (h0:0≤n) (h1:n<best) (h2:best≤1114112):
  Calls Tryz.prog 180 #[.slice a len cap,.int .i64 n,.int .i64 best] w fun e w'=>(∃r:Int,e= .returned (.int .i64 r)∧n<r∧r≤best∧∀m,n≤m→m<r→G.hasB l m=G.hasB l n)∧w'=w:=by
 have hl:=h.hlen
 have hmax:=h.hmax
 have hcap:=h.hcap
 unfold maxLen at hmax
 go_enter Tryz.func180,Tryz.ntmps180
 go_wp2
 go_loop [2,7] (fun b i=>∃(k:Nat) (r:Int),k≤len∧i= .int .i64 k∧b= .int .i64 r∧n<r∧r≤best∧Hid (bdI l n k r)) (fun _ i=>len-(intOf i).toNat)
 case atStart=>exact⟨0,best,Nat.zero_le _,rfl,rfl,h1,Int.le_refl _,fun p hp=>by simp at hp⟩
 case round=>
  obtain⟨k,r,hk,rfl,rfl,hr0,hr1,hn⟩:=hrel
  by_cases hlt:k<len
  ·obtain⟨b,off,rfl,hr⟩:=h.open (by omega)
   obtain⟨lo,hi,-,ht,f1,f2,c0,c1⟩:=hr.at k hlt
   unfold yQ at f1 f2
   obtain⟨f1a,f1b⟩:=f1
   obtain⟨f2a,f2b⟩:=f2
   have ht':=zk ht
   clear ht hr h
   have key:∃r1,((n<lo∧lo<r∧r1=lo)∨(n<lo∧r≤lo∧r1=r)∨(lo≤n∧r1=r)):=by
    by_cases x1:n<lo
    ·by_cases x2:lo<r
     ·exact⟨lo,.inl ⟨x1,x2,rfl⟩⟩
     ·exact⟨r,.inr (.inl ⟨x1,by omega,rfl⟩)⟩
    ·exact⟨r,.inr (.inr ⟨by omega,rfl⟩)⟩
   obtain⟨r1,key⟩:=key
   rcases key with ⟨x1,x2,rfl⟩|⟨x1,x2,rfl⟩|⟨x1,rfl⟩
   ·by_cases y1:n≤hi
    ·by_cases y2:hi<r1-1
     ·have st:=zk (bdI_step (r':=hi+1) hn.out (zq ht') (by omega) (by omega) (by omega))
      go_wp2
      go_round
      case rel=>exact⟨k+1,hi+1,by omega,by go_num,rfl,by omega,by omega,zq st⟩
      case measure=>simp[intOf];omega
     ·have st:=zk (bdI_step (r':=r1) hn.out (zq ht') (by omega) (by omega) (by omega))
      have y2':r1-1≤hi:=by omega
      go_wp2
      go_round
      case rel=>exact⟨k+1,r1,by omega,by go_num,rfl,by omega,by omega,zq st⟩
      case measure=>simp[intOf];omega
    ·have st:=zk (bdI_step (r':=r1) hn.out (zq ht') (by omega) (by omega) (by omega))
     have y1':hi<n:=by omega
     go_wp2
     go_round
     case rel=>exact⟨k+1,r1,by omega,by go_num,rfl,by omega,by omega,zq st⟩
     case measure=>simp[intOf];omega
   ·by_cases y1:n≤hi
    ·by_cases y2:hi<r1-1
     ·have st:=zk (bdI_step (r':=hi+1) hn.out (zq ht') (by omega) (by omega) (by omega))
      go_wp2
      go_round
      case rel=>exact⟨k+1,hi+1,by omega,by go_num,rfl,by omega,by omega,zq st⟩
      case measure=>simp[intOf];omega
     ·have st:=zk (bdI_step (r':=r1) hn.out (zq ht') (by omega) (by omega) (by omega))
      have y2':r1-1≤hi:=by omega
      go_wp2
      go_round
      case rel=>exact⟨k+1,r1,by omega,by go_num,rfl,by omega,by omega,zq st⟩
      case measure=>simp[intOf];omega
    ·have st:=zk (bdI_step (r':=r1) hn.out (zq ht') (by omega) (by omega) (by omega))
     have y1':hi<n:=by omega
     go_wp2
     go_round
     case rel=>exact⟨k+1,r1,by omega,by go_num,rfl,by omega,by omega,zq st⟩
     case measure=>simp[intOf];omega
   ·by_cases y1:n≤hi
    ·by_cases y2:hi<r1-1
     ·have st:=zk (bdI_step (r':=hi+1) hn.out (zq ht') (by omega) (by omega) (by omega))
      go_wp2
      go_round
      case rel=>exact⟨k+1,hi+1,by omega,by go_num,rfl,by omega,by omega,zq st⟩
      case measure=>simp[intOf];omega
     ·have st:=zk (bdI_step (r':=r1) hn.out (zq ht') (by omega) (by omega) (by omega))
      have y2':r1-1≤hi:=by omega
      go_wp2
      go_round
      case rel=>exact⟨k+1,r1,by omega,by go_num,rfl,by omega,by omega,zq st⟩
      case measure=>simp[intOf];omega
    ·have st:=zk (bdI_step (r':=r1) hn.out (zq ht') (by omega) (by omega) (by omega))
     have y1':hi<n:=by omega
     go_wp2
     go_round
     case rel=>exact⟨k+1,r1,by omega,by go_num,rfl,by omega,by omega,zq st⟩
     case measure=>simp[intOf];omega
  ·have hn':=hn.out
   go_wp2
   go_ret
   exact⟨⟨r,rfl,hr0,hr1,fun m m1 m2=>bdI_same hn' (by omega) m1 m2⟩,rfl⟩
def isP (how high:Int) (x y:Bool) (n:Int):Bool:=if how=0 then x||y else if how=1 then x&&y else if how=2 then x&& !y else !x&&decide (n≤high)
theorem refIs_any (a:Option Addr) (la ca:Nat) (A:List (Int×Int)) (b:Option Addr) (lb cb:Nat) (B:List (Int×Int)) (how high n:Int) (w:World) (ha:Rs w a la ca A) (hb:Rs w b lb cb B):
  Calls Tryz.prog 181 #[.slice a la ca,.slice b lb cb,.int .i64 how,.int .i64 high,.int .i64 n] w fun e w'=>e= .returned (.bool (isP how high (G.hasB A n) (G.hasB B n) n))∧w'=w:=by
 have c1:=refHas_any a la ca A n w ha
 have c2:=refHas_any b lb cb B n w hb
 clear ha hb
 generalize G.hasB A n=x at*
 generalize G.hasB B n=y at*
 have C1:=zk c1
 have C2:=zk c2
 clear c1 c2
 have walk:∀r:Bool,isP how high x y n=r→Calls Tryz.prog 181 #[.slice a la ca,.slice b lb cb,.int .i64 how,.int .i64 high,.int .i64 n] w fun e w'=>e= .returned (.bool r)∧w'=w:=by
  intro r hr
  unfold isP at hr
  by_cases h0:how=0
  ·rw[if_pos h0]at hr
   have g0:(how==0)=true:=by rw[beq_iff_eq];exact h0
   clear h0
   cases x
   all_goals
    subst hr
    go_enter Tryz.func181,Tryz.ntmps181
    go_wp2_with fail
    refine(zq C1).mono ?_
    rintro e w' ⟨rfl,rfl⟩
    go_wp2_with fail
    refine(zq C2).mono ?_
    rintro e w' ⟨rfl,rfl⟩
    go_wp2_with fail
    go_ret
    exact⟨ret_bool (by simp),rfl⟩
  ·rw[if_neg h0]at hr
   have g0:(how==0)=false:=by rw[beq_eq_false_iff_ne];exact h0
   clear h0
   by_cases h1:how=1
   ·rw[if_pos h1]at hr
    have g1:(how==1)=true:=by rw[beq_iff_eq];exact h1
    clear h1
    cases x
    all_goals
     subst hr
     go_enter Tryz.func181,Tryz.ntmps181
     go_wp2_with fail
     refine(zq C1).mono ?_
     rintro e w' ⟨rfl,rfl⟩
     go_wp2_with fail
     refine(zq C2).mono ?_
     rintro e w' ⟨rfl,rfl⟩
     go_wp2_with fail
     go_ret
     exact⟨ret_bool (by simp),rfl⟩
   ·rw[if_neg h1]at hr
    have g1:(how==1)=false:=by rw[beq_eq_false_iff_ne];exact h1
    clear h1
    by_cases h2:how=2
    ·rw[if_pos h2]at hr
     have g2:(how==2)=true:=by rw[beq_iff_eq];exact h2
     clear h2
     cases x
     all_goals
      subst hr
      go_enter Tryz.func181,Tryz.ntmps181
      go_wp2_with fail
      refine(zq C1).mono ?_
      rintro e w' ⟨rfl,rfl⟩
      go_wp2_with fail
      refine(zq C2).mono ?_
      rintro e w' ⟨rfl,rfl⟩
      go_wp2_with fail
      go_ret
      exact⟨ret_bool (by simp),rfl⟩
    ·rw[if_neg h2]at hr
     have g2:(how==2)=false:=by rw[beq_eq_false_iff_ne];exact h2
     clear h2
     cases x
     all_goals
      subst hr
      go_enter Tryz.func181,Tryz.ntmps181
      go_wp2_with fail
      refine(zq C1).mono ?_
      rintro e w' ⟨rfl,rfl⟩
      go_wp2_with fail
      refine(zq C2).mono ?_
      rintro e w' ⟨rfl,rfl⟩
      go_wp2_with fail
      go_ret
      exact⟨ret_bool (by simp),rfl⟩
 exact walk _ rfl
structure OI (p:Int→Bool) (n:Int) (out:List (Int×Int)):Prop where
 may:G.zo out=true
 has:∀m,G.hasB out m=(decide (0≤m)&&decide (m<n)&&p m)
 last:∀o x y,out=o++[(x,y)]→y≤n-1
theorem OI.skip {p:Int→Bool} {n next:Int} {out:List (Int×Int)} (h:OI p n out) (hn:n<next) (hf:∀m,n≤m→m<next→p m=p n) (hp:p n=false):OI p next out:=by
 refine⟨h.may,fun m=> ?_,fun o x y e=>by have:=h.last o x y e;omega⟩
 rw[h.has]
 by_cases c1:m<n
 ·simp[c1,show m<next by omega]
 ·by_cases c2:m<next
  ·rw[hf m (by omega) c2,hp];simp
  ·simp[c1,c2]
theorem OI.wide {p:Int→Bool} {n next z:Int} {o:List (Int×Int)} {x y:Int} (hz:z=next-1) (h:OI p n (o++[(x,y)])) (hy:y=n-1) (h0:0≤n) (hn:n<next) (h1:next≤1114112) (hf:∀m,n≤m→m<next→p m=p n) (hp:p n=true):OI p next (o++[(x,z)]):=by
 subst hy
 subst hz
 have hm:=h.may
 rw[G.may_snoc]at hm
 simp only at hm
 refine⟨by rw[G.may_snoc];simp only;exact⟨hm.1,hm.2.1,by omega,by omega⟩,fun m=> ?_,fun o' x' y' e=> ?_⟩
 ·have k:=h.has m
  rw[G.qZ,G.jY]at k
  rw[G.qZ,G.jY]
  by_cases c1:m<n
  ·have:decide (m≤next-1)=decide (m≤n-1):=by rw[decide_eq_true (show m≤next-1 by omega),decide_eq_true (show m≤n-1 by omega)]
   rw[this,k,decide_eq_true c1,decide_eq_true (show m<next by omega)]
  ·have ko:G.hasB o m=false:=by
    rw[decide_eq_false c1]at k
    simp at k
    exact k.1
   rw[ko,Bool.false_or]
   by_cases c2:m<next
   ·rw[hf m (by omega) c2,hp,decide_eq_true (show x≤m by omega),decide_eq_true (show m≤next-1 by omega),decide_eq_true (show 0≤m by omega),decide_eq_true c2];rfl
   ·rw[decide_eq_false (show¬m≤next-1 by omega),decide_eq_false c2];simp
 ·have e':=List.append_inj_right' e (by simp)
  simp at e';omega
theorem OI.app {p:Int→Bool} {n next z:Int} {out:List (Int×Int)} (hz:z=next-1) (h:OI p n out) (hl:∀o x y,out=o++[(x,y)]→y≠n-1) (h0:0≤n) (hn:n<next) (h1:next≤1114112) (hf:∀m,n≤m→m<next→p m=p n) (hp:p n=true):OI p next (out++[(n,z)]):=by
 subst hz
 have he:G.endOf 0 out≤n:=by
  rcases List.eq_nil_or_concat out with e|⟨o,⟨x,y⟩,e⟩
  ·rw[e];exact h0
  ·rw[List.concat_eq_append]at e
   have a:=hl o x y e
   have b:=h.last o x y e
   rw[e,G.endOf_append];simp only;omega
 refine⟨by rw[G.may_snoc];exact⟨h.may,he,by simp only;omega,by simp only;omega⟩,fun m=> ?_,fun o' x' y' e=> ?_⟩
 ·rw[G.qZ,G.jY,h.has]
  by_cases c1:m<n
  ·rw[decide_eq_true c1,decide_eq_false (show¬n≤m by omega),decide_eq_true (show m<next by omega)];simp
  ·rw[decide_eq_false c1]
   by_cases c2:m<next
   ·rw[hf m (by omega) c2,hp,decide_eq_true (show n≤m by omega),decide_eq_true (show m≤next-1 by omega),decide_eq_true (show 0≤m by omega),decide_eq_true c2];rfl
   ·rw[decide_eq_false (show¬m≤next-1 by omega),decide_eq_false c2];simp
 ·have e':=List.append_inj_right' e (by simp)
  simp at e';omega
theorem OI.done {p:Int→Bool} {n:Int} {out:List (Int×Int)} (h:OI p n out) (hn:n=1114112):G.Is out (fun m=>G.dom m&&p m):=by
 subst hn
 refine⟨h.may,fun m=> ?_⟩
 rw[h.has]
 unfold G.dom
 congr 2
 rw[Bool.eq_iff_iff];simp only[decide_eq_true_eq];omega
def ofP (how high:Int) (A B:List (Int×Int)) (n:Int):Bool:=isP how high (G.hasB A n) (G.hasB B n) n
theorem ofP_flat {how high:Int} {A B:List (Int×Int)} {n next:Int} (ha:∀m,n≤m→m<next→G.hasB A m=G.hasB A n) (hb:∀m,n≤m→m<next→G.hasB B m=G.hasB B n) (hh:n≤high→next≤high+1):∀m,n≤m→m<next→ofP how high A B m=ofP how high A B n:=by
 intro m h1 h2
 unfold ofP isP
 rw[ha m h1 h2,hb m h1 h2]
 have:decide (m≤high)=decide (n≤high):=by
  by_cases c:n≤high
  ·rw[decide_eq_true c,decide_eq_true (show m≤high by have:=hh c;omega)]
  ·rw[decide_eq_false c,decide_eq_false (show¬m≤high by omega)]
 rw[this]
theorem below_append1' {B:Nat} {w w1:World} {o1:Obj} {e:TypeId} {sz n:Nat} {v:Value} {xs:List Value} (h:w.ownsRow B e sz v n xs) (hB:B≤w.heap.size) (hg:(w.alloc o1).grownBy w1 v.ownBlock):Below B w w1:=
 ((Below.refl B w).alloc hB _).grown hg (by simp;omega) (fun k hk=>(h.lt k hk).1)
theorem refOfO_any (a:Option Addr) (la ca:Nat) (A:List (Int×Int)) (b:Option Addr) (lb cb:Nat) (B:List (Int×Int)) (how high:Int) (w:World) (ha:Rs w a la ca A) (hb:Rs w b lb cb B) (hh:yQ high):
  Calls Tryz.prog 135 #[.slice a la ca,.slice b lb cb,.int .i64 how,.int .i64 high] w (AnO w fun n=>G.dom n&&ofP how high A B n):=by
 obtain⟨i0,hi0,hz0,hz1,hz2⟩:=info_parts infoRg
 unfold yQ at hh
 obtain⟨hh0,hh1⟩:=hh
 obtain⟨p,hpe⟩:∃p,p=ofP how high A B:=⟨_,rfl⟩
 have hpe':=zk hpe
 have goal:Hid (∀e w',AnO w (fun n=>G.dom n&&p n) e w'→AnO w (fun n=>G.dom n&&ofP how high A B n) e w'):=by intro e w' hx;rw[←hpe];exact hx
 refine Calls.mono (R:=AnO w fun n=>G.dom n&&p n) ?_ (zq goal)
 clear goal hpe
 go_enter Tryz.func135,Tryz.ntmps135
 go_wp2
 go_loopw [9,10] (fun v i wr=>∃(n:Int) (out:List (Int×Int)),0≤n∧n≤1114112∧i= .int .i64 n∧Hid (OI p n out)∧out.length≤557057∧wr.ownsRow w.heap.size 51 2 v out.length (yx out)∧Below w.heap.size w wr) (fun _ i _=>(1114112-intOf i).toNat)
 case atStart=>exact⟨0,[],by omega,by omega,rfl,⟨rfl,fun m=>by by_cases c:0≤m<;>simp[G.hasB,c];omega,fun o x y e=>by simp at e⟩,by simp,World.ownsRow_nil _ _ _ _,Below.refl _ _⟩
 case round=>
  obtain⟨n,out,n0,n1,rfl,hoi,hol,hown,hbl⟩:=hrel
  by_cases hlt:n≤1114111
  ·have RA:=ha.later hbl (Nat.le_refl _)
   have RB:=hb.later hbl (Nat.le_refl _)
   have C1:=zk (refBorder_any a la ca A n 1114112 wr RA n0 (by omega) (by omega))
   have C2:=zk (fun r (h1:n<r) (h2:r≤1114112)=>refBorder_any b lb cb B n r wr RB n0 h1 h2)
   have C3:=zk (refIs_any a la ca A b lb cb B how high n wr RA RB)
   have e3:isP how high (G.hasB A n) (G.hasB B n) n=p n:=by rw[zq hpe'];rfl
   rw[e3]at C3
   clear RA RB e3
   go_wp2_with fail
   refine(zq C1).mono ?_
   rintro e w' ⟨⟨r1,rfl,r1a,r1b,r1c⟩,hw⟩
   obtain rfl:wr=w':=hw.symm
   have R1:=zk r1c
   clear r1c C1
   go_wp2_with fail
   refine(zq C2 r1 r1a r1b).mono ?_
   rintro e w' ⟨⟨r2,rfl,r2a,r2b,r2c⟩,hw⟩
   obtain rfl:wr=w':=hw.symm
   have R2:=zk r2c
   clear r2c C2
   have key:(n≤high∧high<r2-1)∨(n≤high∧r2-1≤high)∨high<n:=by omega
   rcases key with ⟨x1,x2⟩|⟨x1,x2⟩|x1
   ·have FL:Hid (∀m,n≤m→m<(high+1)→p m=p n):=by
     have:=ofP_flat (how:=how) (high:=high) (next:=(high+1)) (fun m m1 m2=>zq R1 m m1 (by omega)) (fun m m1 m2=>zq R2 m m1 (by omega)) (by omega)
     rw[zq hpe'];exact this
    cases hpn:p n with
    |false=>
     rw[hpn]at C3
     have st:=zk ((zq hoi).skip (next:=(high+1)) (by omega) (zq FL) hpn)
     obtain⟨va,vc,hv⟩:=xu hown
     subst hv
     clear hpn FL hoi R1 R2
     go_wp2_with fail
     refine(zq C3).mono ?_
     rintro e w' ⟨rfl,hw⟩
     obtain rfl:wr=w':=hw.symm
     go_wp2_with fail
     go_roundw
     case rel=>exact⟨(high+1),out,by omega,by omega,rfl,zq st,hol,hown,hbl⟩
     case measure=>simp[intOf];omega
    |true=>
     rw[hpn]at C3
     rcases List.eq_nil_or_concat out with ho|⟨o,⟨x,y⟩,ho⟩
     ·subst ho
      have st:=zk (OI.app (next:=(high+1)) (z:=high) (by omega) (zq hoi) (fun o x y e=>by simp at e) n0 (by omega) (by omega) (zq FL) hpn)
      have ln:=G.j6 (zq st).may
      rw[List.length_append]at ln
      obtain⟨va,vc,hv⟩:=xu hown
      subst hv
      simp only[List.length_nil]at hown
      clear hpn FL hoi R1 R2
      go_wp2_with fail
      refine(zq C3).mono ?_
      rintro e w' ⟨rfl,hw⟩
      obtain rfl:wr=w':=hw.symm
      go_wp2_with (at_builtin;refine wpList_append_lies _ rfl _ _ 39 rfl w.heap.size 51 i0 _ 2 16 Tryz.underlying39 hi0 hz0 hz1 hz2 rfl (by omega) _ _ _ rfl (hown.alloc _) ⟨wr.heap.size,0,none⟩ 1 1 [.int .i64 n,.int .i64 high] rfl rfl (jW _ _ _ _ rfl) (by simp[Value.oneCell']) (by omega) (by unfold maxLen;omega) (by omega) (by have:=hbl.size;simp;omega) (wr.heap.size+1) (by simp) ?_;intro gg cap1 w3 hown3 hgrow hat hlt1)
      go_roundw
      case rel=>exact⟨(high+1),[]++[(n,high)],by omega,by omega,rfl,zq st,by simp,hown3,hbl.trans (below_append1' hown hbl.size hgrow)⟩
      case measure=>simp[intOf];omega
     ·rw[List.concat_eq_append]at ho
      subst ho
      obtain⟨g,vc,hv⟩:=ownsRow_succ (k:=o.length) (by simpa using hown)
      subst hv
      rw[List.length_append]at hown hol
      simp only[List.length_cons,List.length_nil,Nat.zero_add]at hown hol
      have ym:=G.may_mem (zq hoi).may (r:=(x,y)) (by simp)
      simp only at ym
      obtain⟨ym0,ym1,ym2⟩:=ym
      have u1:=hown.cellAt (o.length*2+1) (by omega)
      have u2:=hown.frozenAt (o.length*2+1)
      rw[yj,List.getElem?_append_right (by rw[yo];omega),yo,show o.length*2+1-o.length*2=1 by omega,show(yx [(x,y)])[1]? =some (.int .i64 y) from rfl]at u1
      have gb:=(hown.lt g rfl).1
      by_cases hy:y=n-1
      ·have st:=zk (OI.wide (next:=(high+1)) (z:=high) (by omega) (zq hoi) hy n0 (by omega) (by omega) (zq FL) hpn)
       have q1:(y==n-1)=true:=by rw[beq_iff_eq];exact hy
       obtain⟨o3,g3⟩:=hown.stored (o.length*2+1) (.int .i64 high)
       rw[cellsL_set2]at o3
       have O3:=zk o3
       clear hpn FL hoi R1 R2 hy o3 g3
       go_wp2_with fail
       refine(zq C3).mono ?_
       rintro e w' ⟨rfl,hw⟩
       obtain rfl:wr=w':=hw.symm
       go_wp2_with fail
       go_roundw
       case rel=>exact⟨(high+1),o++[(x,high)],by omega,by omega,rfl,zq st,by simpa using hol,by rw[List.length_append];exact zq O3,hbl.setCell (by simp;omega) _⟩
       case measure=>simp[intOf];omega
      ·have st:=zk (OI.app (next:=(high+1)) (z:=high) (by omega) (zq hoi) (fun o' x' y' e=>by have e':=List.append_inj_right' e (by simp);simp at e';omega) n0 (by omega) (by omega) (zq FL) hpn)
       have ln:=G.j6 (zq st).may
       rw[List.length_append,List.length_append]at ln
       simp only[List.length_cons,List.length_nil,Nat.zero_add]at ln
       have q1:(y==n-1)=false:=by rw[beq_eq_false_iff_ne];exact hy
       clear hpn FL hoi R1 R2 hy
       go_wp2_with fail
       refine(zq C3).mono ?_
       rintro e w' ⟨rfl,hw⟩
       obtain rfl:wr=w':=hw.symm
       go_wp2_with (at_builtin;refine wpList_append_lies _ rfl _ _ 39 rfl w.heap.size 51 i0 _ 2 16 Tryz.underlying39 hi0 hz0 hz1 hz2 rfl (by omega) _ _ _ rfl (hown.alloc _) ⟨wr.heap.size,0,none⟩ 1 1 [.int .i64 n,.int .i64 high] rfl rfl (jW _ _ _ _ rfl) (by simp[Value.oneCell']) (by omega) (by unfold maxLen;omega) (by omega) (by have:=hbl.size;simp;omega) (wr.heap.size+1) (by simp) ?_;intro gg cap1 w3 hown3 hgrow hat hlt1)
       go_roundw
       case rel=>exact⟨(high+1),o++[(x,y)]++[(n,high)],by omega,by omega,rfl,zq st,by simp;omega,by rw[yj (o++[(x,y)]),List.length_append,List.length_append];exact hown3,hbl.trans (below_append1' hown hbl.size hgrow)⟩
       case measure=>simp[intOf];omega
   ·have FL:Hid (∀m,n≤m→m<r2→p m=p n):=by
     have:=ofP_flat (how:=how) (high:=high) (next:=r2) (fun m m1 m2=>zq R1 m m1 (by omega)) (fun m m1 m2=>zq R2 m m1 (by omega)) (by omega)
     rw[zq hpe'];exact this
    cases hpn:p n with
    |false=>
     rw[hpn]at C3
     have st:=zk ((zq hoi).skip (next:=r2) (by omega) (zq FL) hpn)
     obtain⟨va,vc,hv⟩:=xu hown
     subst hv
     clear hpn FL hoi R1 R2
     go_wp2_with fail
     refine(zq C3).mono ?_
     rintro e w' ⟨rfl,hw⟩
     obtain rfl:wr=w':=hw.symm
     go_wp2_with fail
     go_roundw
     case rel=>exact⟨r2,out,by omega,by omega,rfl,zq st,hol,hown,hbl⟩
     case measure=>simp[intOf];omega
    |true=>
     rw[hpn]at C3
     rcases List.eq_nil_or_concat out with ho|⟨o,⟨x,y⟩,ho⟩
     ·subst ho
      have st:=zk (OI.app (next:=r2) (z:=(r2-1)) (by omega) (zq hoi) (fun o x y e=>by simp at e) n0 (by omega) (by omega) (zq FL) hpn)
      have ln:=G.j6 (zq st).may
      rw[List.length_append]at ln
      obtain⟨va,vc,hv⟩:=xu hown
      subst hv
      simp only[List.length_nil]at hown
      clear hpn FL hoi R1 R2
      go_wp2_with fail
      refine(zq C3).mono ?_
      rintro e w' ⟨rfl,hw⟩
      obtain rfl:wr=w':=hw.symm
      go_wp2_with (at_builtin;refine wpList_append_lies _ rfl _ _ 39 rfl w.heap.size 51 i0 _ 2 16 Tryz.underlying39 hi0 hz0 hz1 hz2 rfl (by omega) _ _ _ rfl (hown.alloc _) ⟨wr.heap.size,0,none⟩ 1 1 [.int .i64 n,.int .i64 (r2-1)] rfl rfl (jW _ _ _ _ rfl) (by simp[Value.oneCell']) (by omega) (by unfold maxLen;omega) (by omega) (by have:=hbl.size;simp;omega) (wr.heap.size+1) (by simp) ?_;intro gg cap1 w3 hown3 hgrow hat hlt1)
      go_roundw
      case rel=>exact⟨r2,[]++[(n,(r2-1))],by omega,by omega,rfl,zq st,by simp,hown3,hbl.trans (below_append1' hown hbl.size hgrow)⟩
      case measure=>simp[intOf];omega
     ·rw[List.concat_eq_append]at ho
      subst ho
      obtain⟨g,vc,hv⟩:=ownsRow_succ (k:=o.length) (by simpa using hown)
      subst hv
      rw[List.length_append]at hown hol
      simp only[List.length_cons,List.length_nil,Nat.zero_add]at hown hol
      have ym:=G.may_mem (zq hoi).may (r:=(x,y)) (by simp)
      simp only at ym
      obtain⟨ym0,ym1,ym2⟩:=ym
      have u1:=hown.cellAt (o.length*2+1) (by omega)
      have u2:=hown.frozenAt (o.length*2+1)
      rw[yj,List.getElem?_append_right (by rw[yo];omega),yo,show o.length*2+1-o.length*2=1 by omega,show(yx [(x,y)])[1]? =some (.int .i64 y) from rfl]at u1
      have gb:=(hown.lt g rfl).1
      by_cases hy:y=n-1
      ·have st:=zk (OI.wide (next:=r2) (z:=(r2-1)) (by omega) (zq hoi) hy n0 (by omega) (by omega) (zq FL) hpn)
       have q1:(y==n-1)=true:=by rw[beq_iff_eq];exact hy
       obtain⟨o3,g3⟩:=hown.stored (o.length*2+1) (.int .i64 (r2-1))
       rw[cellsL_set2]at o3
       have O3:=zk o3
       clear hpn FL hoi R1 R2 hy o3 g3
       go_wp2_with fail
       refine(zq C3).mono ?_
       rintro e w' ⟨rfl,hw⟩
       obtain rfl:wr=w':=hw.symm
       go_wp2_with fail
       go_roundw
       case rel=>exact⟨r2,o++[(x,(r2-1))],by omega,by omega,rfl,zq st,by simpa using hol,by rw[List.length_append];exact zq O3,hbl.setCell (by simp;omega) _⟩
       case measure=>simp[intOf];omega
      ·have st:=zk (OI.app (next:=r2) (z:=(r2-1)) (by omega) (zq hoi) (fun o' x' y' e=>by have e':=List.append_inj_right' e (by simp);simp at e';omega) n0 (by omega) (by omega) (zq FL) hpn)
       have ln:=G.j6 (zq st).may
       rw[List.length_append,List.length_append]at ln
       simp only[List.length_cons,List.length_nil,Nat.zero_add]at ln
       have q1:(y==n-1)=false:=by rw[beq_eq_false_iff_ne];exact hy
       clear hpn FL hoi R1 R2 hy
       go_wp2_with fail
       refine(zq C3).mono ?_
       rintro e w' ⟨rfl,hw⟩
       obtain rfl:wr=w':=hw.symm
       go_wp2_with (at_builtin;refine wpList_append_lies _ rfl _ _ 39 rfl w.heap.size 51 i0 _ 2 16 Tryz.underlying39 hi0 hz0 hz1 hz2 rfl (by omega) _ _ _ rfl (hown.alloc _) ⟨wr.heap.size,0,none⟩ 1 1 [.int .i64 n,.int .i64 (r2-1)] rfl rfl (jW _ _ _ _ rfl) (by simp[Value.oneCell']) (by omega) (by unfold maxLen;omega) (by omega) (by have:=hbl.size;simp;omega) (wr.heap.size+1) (by simp) ?_;intro gg cap1 w3 hown3 hgrow hat hlt1)
       go_roundw
       case rel=>exact⟨r2,o++[(x,y)]++[(n,(r2-1))],by omega,by omega,rfl,zq st,by simp;omega,by rw[yj (o++[(x,y)]),List.length_append,List.length_append];exact hown3,hbl.trans (below_append1' hown hbl.size hgrow)⟩
       case measure=>simp[intOf];omega
   ·have FL:Hid (∀m,n≤m→m<r2→p m=p n):=by
     have:=ofP_flat (how:=how) (high:=high) (next:=r2) (fun m m1 m2=>zq R1 m m1 (by omega)) (fun m m1 m2=>zq R2 m m1 (by omega)) (by omega)
     rw[zq hpe'];exact this
    cases hpn:p n with
    |false=>
     rw[hpn]at C3
     have st:=zk ((zq hoi).skip (next:=r2) (by omega) (zq FL) hpn)
     obtain⟨va,vc,hv⟩:=xu hown
     subst hv
     clear hpn FL hoi R1 R2
     go_wp2_with fail
     refine(zq C3).mono ?_
     rintro e w' ⟨rfl,hw⟩
     obtain rfl:wr=w':=hw.symm
     go_wp2_with fail
     go_roundw
     case rel=>exact⟨r2,out,by omega,by omega,rfl,zq st,hol,hown,hbl⟩
     case measure=>simp[intOf];omega
    |true=>
     rw[hpn]at C3
     rcases List.eq_nil_or_concat out with ho|⟨o,⟨x,y⟩,ho⟩
     ·subst ho
      have st:=zk (OI.app (next:=r2) (z:=(r2-1)) (by omega) (zq hoi) (fun o x y e=>by simp at e) n0 (by omega) (by omega) (zq FL) hpn)
      have ln:=G.j6 (zq st).may
      rw[List.length_append]at ln
      obtain⟨va,vc,hv⟩:=xu hown
      subst hv
      simp only[List.length_nil]at hown
      clear hpn FL hoi R1 R2
      go_wp2_with fail
      refine(zq C3).mono ?_
      rintro e w' ⟨rfl,hw⟩
      obtain rfl:wr=w':=hw.symm
      go_wp2_with (at_builtin;refine wpList_append_lies _ rfl _ _ 39 rfl w.heap.size 51 i0 _ 2 16 Tryz.underlying39 hi0 hz0 hz1 hz2 rfl (by omega) _ _ _ rfl (hown.alloc _) ⟨wr.heap.size,0,none⟩ 1 1 [.int .i64 n,.int .i64 (r2-1)] rfl rfl (jW _ _ _ _ rfl) (by simp[Value.oneCell']) (by omega) (by unfold maxLen;omega) (by omega) (by have:=hbl.size;simp;omega) (wr.heap.size+1) (by simp) ?_;intro gg cap1 w3 hown3 hgrow hat hlt1)
      go_roundw
      case rel=>exact⟨r2,[]++[(n,(r2-1))],by omega,by omega,rfl,zq st,by simp,hown3,hbl.trans (below_append1' hown hbl.size hgrow)⟩
      case measure=>simp[intOf];omega
     ·rw[List.concat_eq_append]at ho
      subst ho
      obtain⟨g,vc,hv⟩:=ownsRow_succ (k:=o.length) (by simpa using hown)
      subst hv
      rw[List.length_append]at hown hol
      simp only[List.length_cons,List.length_nil,Nat.zero_add]at hown hol
      have ym:=G.may_mem (zq hoi).may (r:=(x,y)) (by simp)
      simp only at ym
      obtain⟨ym0,ym1,ym2⟩:=ym
      have u1:=hown.cellAt (o.length*2+1) (by omega)
      have u2:=hown.frozenAt (o.length*2+1)
      rw[yj,List.getElem?_append_right (by rw[yo];omega),yo,show o.length*2+1-o.length*2=1 by omega,show(yx [(x,y)])[1]? =some (.int .i64 y) from rfl]at u1
      have gb:=(hown.lt g rfl).1
      by_cases hy:y=n-1
      ·have st:=zk (OI.wide (next:=r2) (z:=(r2-1)) (by omega) (zq hoi) hy n0 (by omega) (by omega) (zq FL) hpn)
       have q1:(y==n-1)=true:=by rw[beq_iff_eq];exact hy
       obtain⟨o3,g3⟩:=hown.stored (o.length*2+1) (.int .i64 (r2-1))
       rw[cellsL_set2]at o3
       have O3:=zk o3
       clear hpn FL hoi R1 R2 hy o3 g3
       go_wp2_with fail
       refine(zq C3).mono ?_
       rintro e w' ⟨rfl,hw⟩
       obtain rfl:wr=w':=hw.symm
       go_wp2_with fail
       go_roundw
       case rel=>exact⟨r2,o++[(x,(r2-1))],by omega,by omega,rfl,zq st,by simpa using hol,by rw[List.length_append];exact zq O3,hbl.setCell (by simp;omega) _⟩
       case measure=>simp[intOf];omega
      ·have st:=zk (OI.app (next:=r2) (z:=(r2-1)) (by omega) (zq hoi) (fun o' x' y' e=>by have e':=List.append_inj_right' e (by simp);simp at e';omega) n0 (by omega) (by omega) (zq FL) hpn)
       have ln:=G.j6 (zq st).may
       rw[List.length_append,List.length_append]at ln
       simp only[List.length_cons,List.length_nil,Nat.zero_add]at ln
       have q1:(y==n-1)=false:=by rw[beq_eq_false_iff_ne];exact hy
       clear hpn FL hoi R1 R2 hy
       go_wp2_with fail
       refine(zq C3).mono ?_
       rintro e w' ⟨rfl,hw⟩
       obtain rfl:wr=w':=hw.symm
       go_wp2_with (at_builtin;refine wpList_append_lies _ rfl _ _ 39 rfl w.heap.size 51 i0 _ 2 16 Tryz.underlying39 hi0 hz0 hz1 hz2 rfl (by omega) _ _ _ rfl (hown.alloc _) ⟨wr.heap.size,0,none⟩ 1 1 [.int .i64 n,.int .i64 (r2-1)] rfl rfl (jW _ _ _ _ rfl) (by simp[Value.oneCell']) (by omega) (by unfold maxLen;omega) (by omega) (by have:=hbl.size;simp;omega) (wr.heap.size+1) (by simp) ?_;intro gg cap1 w3 hown3 hgrow hat hlt1)
       go_roundw
       case rel=>exact⟨r2,o++[(x,y)]++[(n,(r2-1))],by omega,by omega,rfl,zq st,by simp;omega,by rw[yj (o++[(x,y)]),List.length_append,List.length_append];exact hown3,hbl.trans (below_append1' hown hbl.size hgrow)⟩
       case measure=>simp[intOf];omega
  ·have fin:=zk ((zq hoi).done (by omega))
   clear hoi
   go_wp2
   go_ret
   exact⟨_,_,rfl,hown,zq fin,hbl⟩
theorem may_step {l:List (Int×Int)} {k:Nat} {lo hi:Int} (ht:l.take (k+1)=l.take k++[(lo,hi)]):G.zo (l.take (k+1))=true↔G.zo (l.take k)=true∧G.endOf 0 (l.take k)≤lo∧lo≤hi∧hi≤1114111:=by
 rw[ht,G.may_snoc]
theorem may_not {l:List (Int×Int)} {k:Nat} (h:¬G.zo (l.take k)=true):G.zo l=false:=by
 cases e:G.zo l with
 |false=>rfl
 |true=>exact absurd (may_take e k) h
theorem end_nonneg {l:List (Int×Int)} (h:G.zo l=true):0≤G.endOf 0 l:=by
 rcases List.eq_nil_or_concat l with e|⟨o,r,e⟩
 ·rw[e];exact Int.le_refl _
 ·rw[List.concat_eq_append]at e
  have:=G.may_mem h (r:=r) (by rw[e];simp)
  rw[e,G.endOf_append];omega
theorem rgRefMay_any (a:Option Addr) (len cap:Nat) (l:List (Int×Int)) (w:World) (h:Rs w a len cap l):
  Calls Tryz.prog 70 #[.slice a len cap] w fun e w'=>e= .returned (.bool (G.zo l))∧Below w.heap.size w w':=by
 have hl:=h.hlen
 have hmax:=h.hmax
 have hcap:=h.hcap
 unfold maxLen at hmax
 go_enter Tryz.func70,Tryz.ntmps70
 go_wp2
 go_loopw [3] (fun i wr=>∃(k:Nat),k≤len∧i= .int .i64 k∧Hid (G.zo (l.take k)=true)∧Hid (∃d,wr=w.drewN d)) (fun i _=>len-(intOf i).toNat)
 case atStart=>exact⟨0,Nat.zero_le _,rfl,by show G.zo _=true;rfl,⟨0,rfl⟩⟩
 case round=>
  obtain⟨k,hk,rfl,hn,hw⟩:=hrel
  obtain⟨d0,hw⟩:=hw
  have bw:Below w.heap.size w wr:=by rw[hw];exact draws_below
  have hw':=zk hw
  clear hw
  by_cases hlt:k<len
  ·obtain⟨b,off,rfl,hr⟩:=(h.later bw (Nat.le_refl _)).open (by omega)
   obtain⟨lo,hi,-,ht,f1,f2,c0,c1⟩:=hr.at k hlt
   unfold yQ at f1 f2
   obtain⟨f1a,f1b⟩:=f1
   obtain⟨f2a,f2b⟩:=f2
   have k0:∀d,(wr.drewN d).cell? ⟨b,off+k*2,none⟩=some (.int .i64 lo):=fun d=>by simpa using c0
   have k1:∀d,(wr.drewN d).cell? ⟨b,off+k*2+1,none⟩=some (.int .i64 hi):=fun d=>by simpa using c1
   have ms:=zk (may_step ht)
   clear c0 c1 ht
   by_cases t1:hi<lo
   ·have fin:=zk (may_not (l:=l) (k:=k+1) (fun e=>by have:=(zq ms).1 e;omega))
    have q1:decide (hi<lo)=true:=decide_eq_true t1
    clear hr
    go_wp2
    go_quiet (fail)
    go_wp2
    go_ret
    exact⟨ret_bool (zq fin).symm,bw.trans draws_below⟩
   ·have q1:decide (hi<lo)=false:=decide_eq_false t1
    by_cases t2:lo<0
    ·have fin:=zk (may_not (l:=l) (k:=k+1) (fun e=>by have e2:=(zq ms).1 e;have e3:=end_nonneg e2.1;omega))
     have q2:decide (lo<0)=true:=decide_eq_true t2
     clear hr
     go_wp2
     go_quiet (fail)
     go_wp2
     go_ret
     exact⟨ret_bool (zq fin).symm,bw.trans draws_below⟩
    ·have q2:decide (lo<0)=false:=decide_eq_false t2
     by_cases t3:1114111<hi
     ·have fin:=zk (may_not (l:=l) (k:=k+1) (fun e=>by have:=(zq ms).1 e;omega))
      have q3:decide (1114111<hi)=true:=decide_eq_true t3
      clear hr
      go_wp2
      go_quiet (fail)
      go_wp2
      go_ret
      exact⟨ret_bool (zq fin).symm,bw.trans draws_below⟩
     ·have q3:decide (1114111<hi)=false:=decide_eq_false t3
      cases k with
      |zero=>
       have st:=zk ((zq ms).2 ⟨hn.out,by simp[G.endOf];omega,by omega,by omega⟩)
       simp only[Nat.zero_mul,Nat.add_zero]at k0 k1
       clear hr
       go_wp2
       go_quiet (fail)
       go_wp2
       go_roundw
       case rel=>exact⟨0+1,by omega,by go_num,zq st,⟨d0+nq,by rw[zq hw',World.drewN_drewN]⟩⟩
       case measure=>simp[intOf];omega
      |succ j=>
       obtain⟨plo,phi,-,htp,g1,g2,e0,e1⟩:=hr.at j (by omega)
       have l1:∀d,(wr.drewN d).cell? ⟨b,off+j*2+1,none⟩=some (.int .i64 phi):=fun d=>by simpa using e1
       have eo:G.endOf 0 (l.take (j+1))=phi+2:=by rw[htp,G.endOf_append]
       have pm:=G.may_mem hn.out (r:=(plo,phi)) (by rw[htp];simp)
       simp only at pm
       obtain⟨pm0,pm1,pm2⟩:=pm
       rw[eo]at ms
       clear htp g1 g2 e0 e1 eo hr
       by_cases t4:lo<phi+2
       ·have fin:=zk (may_not (l:=l) (k:=j+1+1) (fun e=>by have:=(zq ms).1 e;omega))
        go_wp2
        go_quiet (fail)
        go_wp2
        go_ret
        exact⟨ret_bool (zq fin).symm,bw.trans draws_below⟩
       ·have st:=zk ((zq ms).2 ⟨hn.out,by omega,by omega,by omega⟩)
        have t4':phi+2≤lo:=by omega
        go_wp2
        go_quiet (fail)
        go_wp2
        go_roundw
        case rel=>exact⟨j+1+1,by omega,by go_num,zq st,⟨d0+nq,by rw[zq hw',World.drewN_drewN]⟩⟩
        case measure=>simp[intOf];omega
  ·have fin:Hid (G.zo l=true):=by
    have:=hn.out
    rw[List.take_of_length_le (by omega)]at this
    exact this
   go_wp2
   go_ret
   exact⟨ret_bool (zq fin).symm,bw⟩
theorem fits_m1:yQ (-1):=by unfold yQ;omega
theorem isP_0 (high:Int) (x y:Bool) (n:Int):isP 0 high x y n=(x||y):=rfl
theorem isP_2 (high:Int) (x y:Bool) (n:Int):isP 2 high x y n=(x&& !y):=rfl
theorem refNormO_any (a:Option Addr) (la ca:Nat) (A:List (Int×Int)) (w:World) (ha:Rs w a la ca A):
  Calls Tryz.prog 134 #[.slice a la ca] w (AnO w (nrm A)):=by
 have C1:=zk (refOfO_any a la ca A none 0 0 [] 0 (-1) w ha (Rs.nil w) fits_m1)
 clear ha
 go_enter Tryz.func134,Tryz.ntmps134
 go_wp2_with fail
 refine(zq C1).mono ?_
 rintro e w1 ⟨v1,A1,rfl,r1,i1,b1⟩
 have i1':=zk i1
 clear i1 C1
 go_wp2_with fail
 go_ret
 refine⟨v1,A1,rfl,r1,(zq i1').congr fun n=> ?_,b1⟩
 unfold ofP nrm
 rw[isP_0,G.YV,Bool.or_false]
theorem refNorm_any (a:Option Addr) (la ca:Nat) (A:List (Int×Int)) (w:World) (ha:Rs w a la ca A):
  Calls Tryz.prog 134 #[.slice a la ca] w (An w (nrm A)):=(refNormO_any a la ca A w ha).mono fun _ _ h=>h.an
theorem refLessO_any (a:Option Addr) (la ca:Nat) (A:List (Int×Int)) (b:Option Addr) (lb cb:Nat) (B:List (Int×Int)) (w:World) (ha:Rs w a la ca A) (hb:Rs w b lb cb B):
  Calls Tryz.prog 94 #[.slice a la ca,.slice b lb cb] w (AnO w fun n=>nrm A n&& !nrm B n):=by
 have C1:=zk (refOfO_any a la ca A b lb cb B 2 (-1) w ha hb fits_m1)
 clear ha hb
 go_enter Tryz.func94,Tryz.ntmps94
 go_wp2_with fail
 refine(zq C1).mono ?_
 rintro e w1 ⟨v1,A1,rfl,r1,i1,b1⟩
 have i1':=zk i1
 clear i1 C1
 go_wp2_with fail
 go_ret
 refine⟨v1,A1,rfl,r1,(zq i1').congr fun n=> ?_,b1⟩
 unfold ofP nrm
 rw[isP_2]
 cases G.dom n<;>simp
theorem refLess_any (a:Option Addr) (la ca:Nat) (A:List (Int×Int)) (b:Option Addr) (lb cb:Nat) (B:List (Int×Int)) (w:World) (ha:Rs w a la ca A) (hb:Rs w b lb cb B):
  Calls Tryz.prog 94 #[.slice a la ca,.slice b lb cb] w (An w fun n=>nrm A n&& !nrm B n):=(refLessO_any a la ca A b lb cb B w ha hb).mono fun _ _ h=>h.an
theorem refSize_any (a:Option Addr) (la ca:Nat) (A:List (Int×Int)) (w:World) (ha:Rs w a la ca A):
  Calls Tryz.prog 93 #[.slice a la ca] w fun e w'=>e= .returned (.int .i64 (G.size (nrm A)))∧Below w.heap.size w w':=by
 have C1:=zk (refNorm_any a la ca A w ha)
 clear ha
 obtain⟨S,hS⟩:∃S,G.size (nrm A)=S:=⟨_,rfl⟩
 rw[hS]
 have HS:=zk hS
 clear hS
 go_enter Tryz.func93,Tryz.ntmps93
 go_wp2_with fail
 refine(zq C1).mono ?_
 rintro e w1 ⟨pa,m,pc,P,rfl,hr,hi,hb1⟩
 have hI:=zk hi
 have hm:=hr.hlen
 have hmax:=hr.hmax
 have hcap:=hr.hcap
 unfold maxLen at hmax
 have hml:=G.j6 hi.1
 clear hi C1
 go_wp2
 go_loopw [3,5] (fun s i wr=>∃(k:Nat) (z:Int),k≤m∧i= .int .i64 k∧s= .int .i64 z∧Hid (z=G.sizeL (P.take k))∧0≤z∧z≤1114113∧Hid (∃d,wr=w1.drewN d)) (fun _ i _=>m-(intOf i).toNat)
 case atStart=>exact⟨0,0,Nat.zero_le _,rfl,rfl,by show 0=_;simp[G.sizeL],by omega,by omega,⟨0,rfl⟩⟩
 case round=>
  obtain⟨k,z,hk,rfl,rfl,hz,hz0,hz1,hw⟩:=hrel
  obtain⟨d0,hw⟩:=hw
  have bw:Below w1.heap.size w1 wr:=by rw[hw];exact draws_below
  have hw':=zk hw
  clear hw
  by_cases hlt:k<m
  ·obtain⟨b,off,rfl,hq⟩:=(hr.later bw (Nat.le_refl _)).open (by omega)
   obtain⟨lo,hi,hd,htk,f1,f2,c0,c1⟩:=hq.at k hlt
   have bd:=G.sizeL_bounds (may_take (zq hI).1 (k+1)) (by omega)
   have st:=sizeL_take htk
   have hmem:=G.may_mem (zq hI).1 (r:=(lo,hi)) (List.mem_of_mem_drop (by rw[hd];simp))
   simp only at hmem
   obtain⟨m0,m1,m2⟩:=hmem
   rw[st,←hz.out]at bd
   have st':Hid (z+hi-lo+1=G.sizeL (P.take (k+1))):=by show _=_;rw[st,←hz.out];omega
   obtain⟨bd0,bd1⟩:=bd
   have k0:∀d,(wr.drewN d).cell? ⟨b,off+k*2,none⟩=some (.int .i64 lo):=fun d=>by simpa using c0
   have k1:∀d,(wr.drewN d).cell? ⟨b,off+k*2+1,none⟩=some (.int .i64 hi):=fun d=>by simpa using c1
   clear st hd htk hq f1 f2 c0 c1
   go_wp2
   go_quiet (fail)
   go_wp2
   go_roundw
   case rel=>exact⟨k+1,z+hi-lo+1,by omega,by go_num,rfl,st',by omega,by omega,⟨d0+nq,by rw[zq hw',World.drewN_drewN]⟩⟩
   case measure=>simp[intOf];omega
  ·have hk2:k=m:=by omega
   subst hk2
   have hz':=hz.out
   rw[List.take_of_length_le (by omega),(zq hI).size,zq HS]at hz'
   subst hz'
   clear hz
   go_wp2
   go_ret
   exact⟨rfl,hb1.trans (bw.mono hb1.size)⟩
end Go.Proofs.YtcblkmlcbedomaaGreatDoor

/- Parts of the proof that stand ahead of it (R 2). -/
import Derived.Test.YtcblkmlcbedomaaGreatDoorTM2
set_option linter.unusedVariables false
set_option linter.unusedSimpArgs false
set_option maxRecDepth 20000
set_option maxHeartbeats 16000000
namespace Go.Proofs.YtcblkmlcbedomaaGreatDoor.Nl
open Go.Proofs.YtcblkmlcbedomaaGreatDoor.F
/-! ### What is found, as it is known -/
/-! ### How many wait, and how many are not known -/
def okN (P:List PRD):Prop:=∀p∈P,∀a∈p.1,∀s∈a,s.1=2→0≤s.2.2∧s.2.2<P.length
end Go.Proofs.YtcblkmlcbedomaaGreatDoor.Nl
namespace Go.Proofs.YtcblkmlcbedomaaGreatDoor.Rc
open Go.Proofs.YtcblkmlcbedomaaGreatDoor.F
theorem Wi.one {P:List PRD} {n:Nat} {x:Int} (h:x∈symsN P n):Wi P n x:=⟨0,h⟩
theorem Wi.more {P:List PRD} {n m:Nat} {x:Int} (h:Wi P n (m:Int)) (k:x∈symsN P m):Wi P n x:=by
 obtain⟨j,h⟩:=h;exact⟨j+1,m,h,k⟩
def Xw:Nat→(Nat→Bool)→Nat
 |0,_=>0
 |n+1,f=>Xw n f+(if f n then 0 else 1)
theorem cntF_le:∀(n:Nat) (f:Nat→Bool),Xw n f≤n:=by
 intro n
 induction n with
 |zero=>intro f;exact Nat.le_refl _
 |succ n ih=>intro f;unfold Xw;have:=ih f;split<;>omega
theorem cntF_congr {f g:Nat→Bool}:∀(n:Nat),(∀i,i<n→f i=g i)→Xw n f=Xw n g:=by
 intro n
 induction n with
 |zero=>intro _;rfl
 |succ n ih=>intro h;unfold Xw;rw[ih (fun i hi=>h i (by omega)),h n (by omega)]
theorem XW {f g:Nat→Bool} {m:Nat} (hm:f m=false) (hg:g m=true) (ho:∀i,i≠m→g i=f i):∀(n:Nat),m<n→Xw n f=Xw n g+1:=by
 intro n
 induction n with
 |zero=>intro h;omega
 |succ n ih=>
  intro h
  unfold Xw
  by_cases e:n=m
  ·subst e
   rw[hm,hg,cntF_congr n (fun i hi=>(ho i (by omega)).symm)];simp
  ·rw[ih (by omega),ho n e];split<;>omega
theorem Xo {S:List Bool} {i:Nat} (h:i<S.length) (j:Nat):bt (S.set i true) j=if j=i then true else bt S j:=by
 unfold bt
 simp only[List.getD_eq_getElem?_getD,List.getElem?_set]
 by_cases e:i=j
 ·subst e;simp[h]
 ·rw[if_neg e,if_neg (fun c=>e c.symm)]
structure WiI (P:List PRD) (n:Nat) (S:List Bool) (T:Int→Bool):Prop where
 len:S.length=P.length
 seen:∀m:Nat,bt S m=true→Wi P n (m:Int)
 todo:∀m:Nat,T (m:Int)=true→m=n∨bt S m=true
 clos:∀m:Nat,m=n∨bt S m=true→T (m:Int)=false→∀y∈symsN P m,∃q:Nat,y=(q:Int)∧bt S q=true
theorem WiI.begin (P:List PRD) (n:Nat) {T:Int→Bool} (hT:∀x,T x=decide (x∈[(n:Int)])):WiI P n (List.replicate P.length false) T:=by
 have hb:∀m,bt (List.replicate P.length false) m=false:=fun m=>by
  unfold bt
  rw[List.getD_eq_getElem?_getD,List.getElem?_replicate]
  split<;>rfl
 refine⟨by simp,fun m h=> ?_,fun m h=> ?_,fun m h hn=> ?_⟩
 ·rw[hb]at h;cases h
 ·rw[hT]at h;have:=of_decide_eq_true h;simp at this;exact .inl (by omega)
 ·rcases h with h|h
  ·rw[hT,h]at hn;simp at hn
  ·rw[hb]at h;cases h
structure WiJ (P:List PRD) (n m:Nat) (S0:List Bool) (L:List Int) (S:List Bool) (found:List Int):Prop where
 len:S.length=P.length
 mark:∀q:Nat,bt S q=(bt S0 q||decide ((q:Int)∈L))
 new:∀x:Int,x∈found↔∃q:Nat,x=(q:Int)∧(q:Int)∈L∧bt S0 q=false
 cnt:Xw P.length (bt S)+found.length=Xw P.length (bt S0)
theorem WiJ.nil {P:List PRD} {n m:Nat} {S0:List Bool} (h:S0.length=P.length):WiJ P n m S0 [] S0 []:=
 ⟨h,fun q=>by simp,fun x=>by simp,rfl⟩
theorem WiJ.old {P:List PRD} {n m q:Nat} {S0 S:List Bool} {L found:List Int} (h:WiJ P n m S0 L S found) (hq:bt S q=true):WiJ P n m S0 (L++[(q:Int)]) S found:=by
 have hm:=h.mark q
 rw[hq]at hm
 have hm2:bt S0 q=true∨(q:Int)∈L:=by simpa using hm.symm
 refine⟨h.len,fun j=> ?_,fun x=> ?_,h.cnt⟩
 ·rw[h.mark j]
  by_cases e:j=q
  ·subst e
   rcases hm2 with a|a
   ·rw[a];simp
   ·simp[a]
  ·have:((j:Int)=(q:Int))↔False:=⟨fun c=>e (by omega),fun c=>c.elim⟩
   simp[this]
 ·rw[h.new x]
  constructor
  ·rintro⟨j,e,h1,h2⟩;exact⟨j,e,List.mem_append_left _ h1,h2⟩
  ·rintro⟨j,e,h1,h2⟩
   refine⟨j,e,?_,h2⟩
   rcases List.mem_append.1 h1 with h1|h1
   ·exact h1
   ·simp at h1
    obtain rfl:j=q:=by omega
    rcases hm2 with a|a
    ·rw[a]at h2;cases h2
    ·exact a
theorem WiJ.more {P:List PRD} {n m q:Nat} {S0 S:List Bool} {L found:List Int} (h:WiJ P n m S0 L S found) (hq:bt S q=false) (hlt:q<P.length):WiJ P n m S0 (L++[(q:Int)]) (S.set q true) (found++[(q:Int)]):=by
 have hm:=h.mark q
 rw[hq]at hm
 have hm2:bt S0 q=false∧(q:Int)∉L:=by simpa using hm.symm
 have hl:q<S.length:=by rw[h.len];exact hlt
 refine⟨by simp[h.len],fun j=> ?_,fun x=> ?_,?_⟩
 ·rw[Xo hl]
  by_cases e:j=q
  ·subst e;simp
  ·have:((j:Int)=(q:Int))↔False:=⟨fun c=>e (by omega),fun c=>c.elim⟩
   rw[if_neg e,h.mark j];simp[this]
 ·rw[List.mem_append,h.new x]
  constructor
  ·rintro(⟨j,e,h1,h2⟩|h1)
   ·exact⟨j,e,List.mem_append_left _ h1,h2⟩
   ·simp at h1;exact⟨q,h1,by simp,hm2.1⟩
  ·rintro⟨j,e,h1,h2⟩
   rcases List.mem_append.1 h1 with h1|h1
   ·exact .inl ⟨j,e,h1,h2⟩
   ·simp at h1;exact .inr (by simp[e,h1])
 ·have:=XW (f:=bt S) (g:=bt (S.set q true)) hq (by rw[Xo hl,if_pos rfl]) (fun i hi=>by rw[Xo hl,if_neg hi]) P.length hlt
  have hc:=h.cnt
  rw[List.length_append,List.length_singleton];omega
theorem WiI.step {P:List PRD} {n m:Nat} {S S':List Bool} {T T':Int→Bool} {found:List Int} (h:WiI P n S T) (hm:T (m:Int)=true) (hj:WiJ P n m S (symsN P m) S' found) (hr:∀y∈symsN P m,∃q:Nat,y=(q:Int)∧q<P.length)
  (hT:∀x,T' x=((T x&&decide (x≠(m:Int)))||decide (x∈found))):WiI P n S' T':=by
 have old:∀q,bt S q=true→bt S' q=true:=fun q hq=>by rw[hj.mark,hq];rfl
 refine⟨hj.len,fun q hq=> ?_,fun q hq=> ?_,fun q hq hn=> ?_⟩
 ·rw[hj.mark]at hq
  have hq:bt S q=true∨(q:Int)∈symsN P m:=by simpa using hq
  rcases hq with a|a
  ·exact h.seen q a
  ·rcases h.todo m hm with e|e
   ·subst e;exact .one a
   ·exact(h.seen m e).more a
 ·rw[hT]at hq
  have hq:(T (q:Int)=true∧(q:Int)≠(m:Int))∨(q:Int)∈found:=by simpa using hq
  rcases hq with ⟨a,-⟩|a
  ·rcases h.todo q a with e|e
   ·exact .inl e
   ·exact .inr (old q e)
  ·obtain⟨j,e,h1,h2⟩:=(hj.new _).1 a
   obtain rfl:q=j:=by omega
   exact .inr (by rw[hj.mark];simp[h1])
 ·rw[hT]at hn
  have hn:(T (q:Int)=true→(q:Int)=(m:Int))∧(q:Int)∉found:=by simpa using hn
  by_cases e:q=m
  ·subst e
   intro y hy
   obtain⟨j,rfl,-⟩:=hr y hy
   exact⟨j,rfl,by rw[hj.mark];simp[hy]⟩
  ·have hTq:T (q:Int)=false:=by
    cases hc:T (q:Int)with
    |false=>rfl
    |true=>exact absurd (hn.1 hc) (fun c=>e (by omega))
   have hq2:q=n∨bt S q=true:=by
    rcases hq with a|a
    ·exact .inl a
    ·cases hc:bt S q with
     |true=>exact .inr rfl
     |false=>
      rw[hj.mark,hc]at a
      exact absurd ((hj.new _).2 ⟨q,rfl,by simpa using a,hc⟩) hn.2
   intro y hy
   obtain⟨j,e2,hb⟩:=h.clos q hq2 hTq y hy
   exact⟨j,e2,old j hb⟩
theorem WiI.done {P:List PRD} {n:Nat} {S:List Bool} {T:Int→Bool} (h:WiI P n S T) (h0:∀m:Nat,m<P.length→T (m:Int)=false) (hn:n<P.length) (m:Nat):bt S m=true↔Wi P n (m:Int):=by
 have lt:∀q,bt S q=true→q<P.length:=fun q hq=>by
  unfold bt at hq
  rw[List.getD_eq_getElem?_getD]at hq
  cases e:S[q]? with
  |none=>rw[e]at hq;cases hq
  |some b=>rw[←h.len];exact(List.getElem?_eq_some_iff.1 e).1
 refine⟨h.seen m,?_⟩
 rintro⟨k,hk⟩
 induction k generalizing m with
 |zero=>
  obtain⟨q,e,hb⟩:=h.clos n (.inl rfl) (h0 n hn) _ hk
  obtain rfl:m=q:=by omega
  exact hb
 |succ k ih=>
  obtain⟨p,h1,h2⟩:=hk
  have hp:=ih p h1
  obtain⟨q,e,hb⟩:=h.clos p (.inr hp) (h0 p (lt p hp)) _ h2
  obtain rfl:m=q:=by omega
  exact hb
theorem syT_mono {T U:Int→Prop} (h:∀x,T x→U x) {s:SY} (hs:syT T s):syT U s:=by
 unfold syT at*
 split
 ·rename_i e;rw[if_pos e]at hs;exact hs
 ·rename_i e
  rw[if_neg e]at hs
  split
  ·rename_i e2;rw[if_pos e2]at hs;exact hs
  ·rename_i e2;rw[if_neg e2]at hs;exact h _ hs
theorem alT_mono {T U:Int→Prop} (h:∀x,T x→U x) {l:List SY} (hs:alT T l):alT U l:=fun s m=>syT_mono h (hs s m)
def Tx (P:List PRD) (x:Int):Prop:=∃k,tx P k x
theorem tx_up {P:List PRD}:∀{k:Nat} {x:Int},tx P k x→tx P (k+1) x:=by
 intro k
 induction k with
 |zero=>intro x h;exact h.elim
 |succ k ih=>
  rintro x ⟨n,e,p,hp,a,ha,h⟩
  exact⟨n,e,p,hp,a,ha,alT_mono (fun _=>ih) h⟩
theorem tx_le {P:List PRD} {k j:Nat} {x:Int} (h:tx P k x) (hk:k≤j):tx P j x:=by
 induction hk with
 |refl=>exact h
 |step _ ih=>exact tx_up ih
theorem Tx.all {P:List PRD}:∀{l:List SY},alT (Tx P) l→∃k,alT (tx P k) l:=by
 intro l
 induction l with
 |nil=>intro _;exact⟨0,fun s h=>by cases h⟩
 |cons s l ih=>
  intro h
  obtain⟨k,hk⟩:=ih (fun t ht=>h t (List.mem_cons_of_mem _ ht))
  have hs:=h s List.mem_cons_self
  have:∃j,syT (tx P j) s:=by
   unfold syT at*
   by_cases e:s.1=0
   ·rw[if_pos e]at hs;exact⟨0,by rw[if_pos e];exact hs⟩
   ·rw[if_neg e]at hs
    by_cases e2:s.1=1
    ·rw[if_pos e2]at hs;exact⟨0,by rw[if_neg e,if_pos e2];exact hs⟩
    ·rw[if_neg e2]at hs
     obtain⟨j,hj⟩:=hs
     exact⟨j,by rw[if_neg e,if_neg e2];exact hj⟩
  obtain⟨j,hj⟩:=this
  refine⟨k+j,fun t ht=> ?_⟩
  rcases List.mem_cons.1 ht with rfl|ht
  ·exact syT_mono (fun _ h=>tx_le h (by omega)) hj
  ·exact syT_mono (fun _ h=>tx_le h (by omega)) (hk t ht)
theorem Tx.of {P:List PRD} {n:Nat} (h:prT P (Tx P) n):Tx P (n:Int):=by
 obtain⟨p,hp,a,ha,hl⟩:=h
 obtain⟨k,hk⟩:=Tx.all hl
 exact⟨k+1,n,rfl,p,hp,a,ha,hk⟩
theorem Tx.least {P:List PRD} {T:Int→Prop} (h:∀n:Nat,prT P T n→T (n:Int)) {x:Int} (hx:Tx P x):T x:=by
 obtain⟨k,hk⟩:=hx
 induction k generalizing x with
 |zero=>exact hk.elim
 |succ k ih=>
  obtain⟨n,rfl,p,hp,a,ha,hl⟩:=hk
  exact h n ⟨p,hp,a,ha,alT_mono (fun _ h=>ih h) hl⟩
def kn (S:List Bool) (x:Int):Prop:=bt S x.toNat=true
structure TxI (P:List PRD) (S:List Bool) (T:Int→Bool):Prop where
 len:S.length=P.length
 seen:∀m:Nat,bt S m=true→Tx P (m:Int)
 clos:∀m:Nat,m<P.length→T (m:Int)=false→bt S m=true∨¬prT P (kn S) m
theorem TxI.begin (P:List PRD) {T:Int→Bool} (hT:∀m:Nat,m<P.length→T (m:Int)=true):TxI P (List.replicate P.length false) T:=by
 refine⟨by simp,fun m h=> ?_,fun m hm h=> ?_⟩
 ·unfold bt at h
  rw[List.getD_eq_getElem?_getD,List.getElem?_replicate]at h
  split at h<;>cases h
 ·rw[hT m hm]at h;cases h
theorem TxI.drop {P:List PRD} {S:List Bool} {T T':Int→Bool} {m:Nat} (h:TxI P S T) (hm:bt S m=true∨¬prT P (kn S) m) (hT:∀x,T' x=(T x&&decide (x≠(m:Int)))):TxI P S T':=by
 refine⟨h.len,h.seen,fun q hq hn=> ?_⟩
 by_cases e:q=m
 ·subst e;exact hm
 ·refine h.clos q hq ?_
  rw[hT]at hn
  cases hc:T (q:Int)with
  |false=>rfl
  |true=>
   rw[hc]at hn
   simp at hn
   exact absurd hn (fun c=>e (by omega))
def okP (P:List PRD):Prop:=∀p∈P,∀a∈p.1,∀s∈a,s.1=0∨s.1=1∨s.1=2∧0≤s.2.2
theorem TxI.mark {P:List PRD} {S:List Bool} {T T':Int→Bool} {m:Nat} {users:List Int} (h:TxI P S T) (hl:m<P.length) (hk:okP P) (hm:prT P (kn S) m) (hu:∀q:Nat,(m:Int)∈symsN P q→(q:Int)∈users)
  (hT:∀x,T' x=((T x&&decide (x≠(m:Int)))||decide (x∈users))):TxI P (S.set m true) T':=by
 have hS:m<S.length:=by rw[h.len];exact hl
 have hkT:∀x,kn S x→0≤x→Tx P x:=fun x hx h0=>by
  obtain⟨j,rfl⟩:=Int.eq_ofNat_of_zero_le h0
  exact h.seen j hx
 refine⟨by simp[h.len],fun q hq=> ?_,fun q hq hn=> ?_⟩
 ·rw[Xo hS]at hq
  split at hq
  ·rename_i e
   subst e
   obtain⟨p,hp,a,ha,hl⟩:=hm
   refine Tx.of ⟨p,hp,a,ha,fun s hs=> ?_⟩
   have h1:=hl s hs
   unfold syT at*
   by_cases e0:s.1=0
   ·rw[if_pos e0]at*;exact h1
   ·rw[if_neg e0]at*
    by_cases e1:s.1=1
    ·rw[if_pos e1]at*;exact h1
    ·rw[if_neg e1]at*
     have:=hk p (List.mem_of_getElem? hp) a ha s hs
     exact hkT _ h1 (by omega)
  ·exact h.seen q hq
 ·rw[hT]at hn
  have hn:(T (q:Int)=true→(q:Int)=(m:Int))∧(q:Int)∉users:=by simpa using hn
  by_cases e:q=m
  ·subst e;exact .inl (by rw[Xo hS,if_pos rfl])
  ·have hTq:T (q:Int)=false:=by
    cases hc:T (q:Int)with
    |false=>rfl
    |true=>exact absurd (hn.1 hc) (fun c=>e (by omega))
   rcases h.clos q hq hTq with a|a
   ·exact .inl (by rw[Xo hS,if_neg e];exact a)
   ·refine .inr fun⟨p,hp,al,hal,hl⟩=>a ⟨p,hp,al,hal,fun s hs=> ?_⟩
    have h1:=hl s hs
    unfold syT at*
    by_cases e0:s.1=0
    ·rw[if_pos e0]at*;exact h1
    ·rw[if_neg e0]at*
     by_cases e1:s.1=1
     ·rw[if_pos e1]at*;exact h1
     ·rw[if_neg e1]at*
      unfold kn at*
      rw[Xo hS]at h1
      split at h1
      ·rename_i e2
       exfalso
       have h3:=hk p (List.mem_of_getElem? hp) al hal s hs
       have h4:s.2.2=(m:Int):=by omega
       have h5:s.1=2:=by omega
       refine hn.2 (hu q ?_)
       unfold symsN
       rw[hp]
       refine List.mem_flatMap.2 ⟨al,hal,?_⟩
       have key:∀l:List SY,s∈l→(m:Int)∈symsA l:=by
        intro l
        induction l with
        |nil=>intro h;cases h
        |cons t l ih=>
         intro h
         unfold symsA
         rcases List.mem_cons.1 h with rfl|h
         ·rw[if_pos h5,h4];exact List.mem_cons_self
         ·split
          ·exact List.mem_cons_of_mem _ (ih h)
          ·exact ih h
       exact key al hs
      ·exact h1
theorem TxI.done {P:List PRD} {S:List Bool} {T:Int→Bool} (h:TxI P S T) (h0:∀m:Nat,m<P.length→T (m:Int)=false) (m:Nat):bt S m=true↔Tx P (m:Int):=by
 refine⟨h.seen m,fun hx=> ?_⟩
 have:=Tx.least (P:=P) (T:=fun x=>kn S x) (fun n hn=>by
  obtain⟨p,hp,-⟩:=id hn
  rcases h.clos n (List.getElem?_eq_some_iff.1 hp).1 (h0 n (List.getElem?_eq_some_iff.1 hp).1)with a|a
  ·exact a
  ·exact absurd hn a) hx
 exact this
end Go.Proofs.YtcblkmlcbedomaaGreatDoor.Rc

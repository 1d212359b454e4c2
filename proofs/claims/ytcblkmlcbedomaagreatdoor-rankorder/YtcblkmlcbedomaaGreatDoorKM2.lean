/- Parts of the proof that stand ahead of it (K 2). -/
import Derived.Test.YtcblkmlcbedomaaGreatDoorTM2
import Derived.Test.YtcblkmlcbedomaaGreatDoorKM1
set_option linter.unusedVariables false
set_option linter.unusedSimpArgs false
set_option maxRecDepth 20000
set_option maxHeartbeats 16000000
namespace Go.Proofs.YtcblkmlcbedomaaGreatDoor.Nl
open Go.Proofs.YtcblkmlcbedomaaGreatDoor.F
def LeB (is js:List Bool):Prop:=∀i:Nat,is.getD i false=true→js.getD i false=true
theorem nulS_iff {is:List Bool} {s:SY}:nulS is s=true↔s.1=2∧0≤s.2.2∧is.getD s.2.2.toNat false=true:=by
 unfold nulS;simp only[Bool.and_eq_true,decide_eq_true_eq]
theorem nulA_iff {is:List Bool} {l:List SY}:nulA is l=true↔∀s∈l,nulS is s=true:=by
 unfold nulA;exact List.all_eq_true
theorem nulA_mono {is js:List Bool} (h:LeB is js) {l:List SY} (hl:nulA is l=true):nulA js l=true:=by
 rw[nulA_iff]at hl⊢
 intro s hs
 have:=hl s hs
 rw[nulS_iff]at this⊢
 exact⟨this.1,this.2.1,h _ this.2.2⟩
theorem step_len (P:List PRD) (is:List Bool):(stepL P is).length=P.length:=by simp[stepL]
theorem it_len (P:List PRD) (k:Nat):(itL P k).length=P.length:=by
 cases k with
 |zero=>simp[itL]
 |succ k=>exact step_len _ _
theorem step_at {P:List PRD} {is:List Bool} {i:Nat}:(stepL P is).getD i false=true↔∃p a,P[i]? =some p∧a∈p.1∧nulA is a=true:=by
 unfold stepL
 rw[List.getD_eq_getElem?_getD,List.getElem?_map]
 cases h:P[i]? with
 |none=>simp
 |some p=>simp
theorem step_mono {P:List PRD} {is js:List Bool} (h:LeB is js):LeB (stepL P is) (stepL P js):=by
 intro i hi
 rw[step_at]at hi⊢
 obtain⟨p,a,h1,h2,h3⟩:=hi
 exact⟨p,a,h1,h2,nulA_mono h h3⟩
theorem it_up (P:List PRD):∀k,LeB (itL P k) (itL P (k+1)):=by
 intro k
 induction k with
 |zero=>
  intro i hi
  simp only[itL,List.getD_eq_getElem?_getD,List.getElem?_replicate]at hi
  split at hi<;>simp at hi
 |succ k ih=>exact step_mono ih
def cntB (l:List Bool):Nat:=l.countP id
theorem cnt_le (l:List Bool):cntB l≤l.length:=List.countP_le_length
theorem cnt_lt:∀(is js:List Bool),is.length=js.length→LeB is js→is=js∨cntB is<cntB js:=by
 intro is
 induction is with
 |nil=>intro js h _;left;cases js with
  |nil=>rfl
  |cons=>simp at h
 |cons x is ih=>
  intro js h hl
  cases js with
  |nil=>simp at h
  |cons y js=>
   have h0:=hl 0
   have hr:LeB is js:=fun i hi=>by have:=hl (i+1);simpa using this (by simpa using hi)
   have hx:cntB (x::is)=cntB is+(if x then 1 else 0):=by unfold cntB;rw[List.countP_cons];rfl
   have hy:cntB (y::js)=cntB js+(if y then 1 else 0):=by unfold cntB;rw[List.countP_cons];rfl
   rcases ih js (by simpa using h) hr with e|e
   ·subst e
    cases x<;>cases y<;>simp at h0 hx hy⊢<;>omega
   ·right
    cases x<;>cases y<;>simp at h0 hx hy⊢<;>omega
theorem it_fix (P:List PRD):∀k,(∃j,j<k∧itL P (j+1)=itL P j)∨k≤cntB (itL P k):=by
 intro k
 induction k with
 |zero=>right;exact Nat.zero_le _
 |succ k ih=>
  rcases ih with ⟨j,hj,e⟩|h
  ·exact .inl ⟨j,by omega,e⟩
  ·rcases cnt_lt (itL P k) (itL P (k+1)) (by rw[it_len,it_len]) (it_up P k)with e|e
   ·exact .inl ⟨k,by omega,e.symm⟩
   ·right;omega
theorem it_stay {P:List PRD} {j:Nat} (h:itL P (j+1)=itL P j):∀k,itL P (j+k)=itL P j:=by
 intro k
 induction k with
 |zero=>rfl
 |succ k ih=>
  show stepL P (itL P (j+k))=_
  rw[ih];exact h
theorem nu_fix (P:List PRD):stepL P (nuL P)=nuL P:=by
 obtain⟨j,hj,e⟩:∃j,j≤P.length∧itL P (j+1)=itL P j:=by
  rcases it_fix P (P.length+1)with ⟨j,hj,e⟩|h
  ·exact⟨j,by omega,e⟩
  ·have:=cnt_le (itL P (P.length+1));rw[it_len]at this;omega
 have h1:=it_stay e (P.length-j)
 have h2:=it_stay e (P.length+1-j)
 rw[show j+(P.length-j)=P.length by omega]at h1
 rw[show j+(P.length+1-j)=P.length+1 by omega]at h2
 show itL P (P.length+1)=itL P P.length
 rw[h1,h2]
def isN (P:List PRD) (i:Int):Prop:=0≤i∧(nuL P).getD i.toNat false=true
theorem nulS_nu {P:List PRD} {s:SY}:nulS (nuL P) s=true↔s.1=2∧isN P s.2.2:=nulS_iff
theorem nu_closed {P:List PRD} {i:Nat} {p:PRD} {a:List SY} (hp:P[i]? =some p) (ha:a∈p.1) (h:∀s∈a,s.1=2∧isN P s.2.2):isN P (i:Int):=by
 refine⟨by omega,?_⟩
 rw[Int.toNat_natCast,←nu_fix]
 exact step_at.2 ⟨p,a,hp,ha,nulA_iff.2 fun s hs=>nulS_nu.2 (h s hs)⟩
theorem nu_least {P:List PRD} (C:Int→Prop) (hC:∀(i:Nat) (p:PRD) (a:List SY),P[i]? =some p→a∈p.1→(∀s∈a,s.1=2∧C s.2.2)→C (i:Int)):∀i,isN P i→C i:=by
 have key:∀k (i:Nat),(itL P k).getD i false=true→C (i:Int):=by
  intro k
  induction k with
  |zero=>
   intro i hi
   simp only[itL,List.getD_eq_getElem?_getD,List.getElem?_replicate]at hi
   split at hi<;>simp at hi
  |succ k ih=>
   intro i hi
   obtain⟨p,a,h1,h2,h3⟩:=step_at.1 hi
   refine hC i p a h1 h2 fun s hs=> ?_
   have:=nulS_iff.1 (nulA_iff.1 h3 s hs)
   refine⟨this.1,?_⟩
   have:=ih _ this.2.2
   rwa [Int.toNat_of_nonneg (by omega)]at this
 intro i hi
 have:=key _ _ hi.2
 rwa [Int.toNat_of_nonneg hi.1]at this
/-! ### What is found, as it is known -/
def inE (E:List Int) (s:SY):Bool:=decide (s.1=2)&&decide (s.2.2∈E)
theorem inE_iff {E:List Int} {s:SY}:inE E s=true↔s.1=2∧s.2.2∈E:=by unfold inE;simp only[Bool.and_eq_true,decide_eq_true_eq]
def XV (E:List Int):List SY→List SY
 | []=> []
 |s::l=>if inE E s=true then XV E l else s::l
theorem beh_drop (E:List Int):∀l:List SY,∃k,k≤l.length∧XV E l=l.drop k∧∀s∈l.take k,inE E s=true:=by
 intro l
 induction l with
 |nil=>exact⟨0,Nat.le_refl _,rfl,fun s hs=>by simp at hs⟩
 |cons x l ih=>
  unfold XV
  by_cases h:inE E x=true
  ·rw[if_pos h]
   obtain⟨k,hk,e,ha⟩:=ih
   refine⟨k+1,by simp;omega,by simpa using e,fun s hs=> ?_⟩
   simp at hs
   rcases hs with rfl|hs
   ·exact h
   ·exact ha s hs
  ·rw[if_neg h]
   exact⟨0,Nat.zero_le _,rfl,fun s hs=>by simp at hs⟩
theorem beh_head {E:List Int}:∀{l:List SY} {s:SY} {t:List SY},XV E l=s::t→inE E s=false:=by
 intro l
 induction l with
 |nil=>intro s t h;cases h
 |cons x l ih=>
  intro s t h
  unfold XV at h
  by_cases hx:inE E x=true
  ·rw[if_pos hx]at h;exact ih h
  ·rw[if_neg hx]at h
   injection h with h1 h2
   subst h1
   simpa using hx
theorem beh_nil {E:List Int}:∀{l:List SY},XV E l=[]↔∀s∈l,inE E s=true:=by
 intro l
 induction l with
 |nil=>simp[XV]
 |cons x l ih=>
  unfold XV
  by_cases hx:inE E x=true
  ·rw[if_pos hx,ih];simp[hx]
  ·rw[if_neg hx];simp[hx]
def XW (E:List Int):List SY→List Int
 | []=> []
 |s::l=>if s.1=2 then s.2.2::(if s.2.2∈E then XW E l else [])else []
def Xw:List PRD→Int→List RS
 | [],_=> []
 |p::l,n=>p.1.map (fun a=>(n,a))++Xw l (n+1)
def Rest (P:List PRD) (E:List Int) (r:RS):Prop:=∃(i:Nat) (p:PRD) (pre:List SY),r.1=(i:Int)∧P[i]? =some p∧pre++r.2∈p.1∧∀s∈pre,inE E s=true
theorem inE_mono {E:List Int} (x:Int) {s:SY} (h:inE E s=true):inE (E++[x]) s=true:=by
 rw[inE_iff]at h⊢;exact⟨h.1,List.mem_append_left _ h.2⟩
theorem Rest.more {P:List PRD} {E:List Int} {r:RS} (h:Rest P E r) (x:Int):Rest P (E++[x]) r:=by
 obtain⟨i,p,pre,h1,h2,h3,h4⟩:=h
 exact⟨i,p,pre,h1,h2,h3,fun s hs=>inE_mono x (h4 s hs)⟩
theorem Rest.beh {P:List PRD} {E:List Int} {r:RS} (h:Rest P E r):Rest P E (r.1,XV E r.2):=by
 obtain⟨i,p,pre,h1,h2,h3,h4⟩:=h
 obtain⟨k,hk,e,ha⟩:=beh_drop E r.2
 refine⟨i,p,pre++r.2.take k,h1,h2,?_,fun s hs=> ?_⟩
 ·show pre++r.2.take k++XV E r.2∈p.1
  rw[e,List.append_assoc,List.take_append_drop];exact h3
 ·rcases List.mem_append.1 hs with hs|hs
  ·exact h4 s hs
  ·exact ha s hs
def Done (P:List PRD) (E:List Int) (next:List RS) (wait:Int→List RS) (i:Nat) (a:List SY):Prop:=
 (i:Int)∈E∨(∃pre left,a=pre++left∧(∀s∈pre,inE E s=true)∧((i:Int),left)∈next)∨
  (∃pre s left,a=pre++s::left∧(∀s∈pre,inE E s=true)∧(s.1=2→s.2.2∉E∧((i:Int),s::left)∈wait s.2.2))
structure Fd (P:List PRD) (E:List Int) (next:List RS) (wait:Int→List RS):Prop where
 nx:∀r∈next,Rest P E r
 wt:∀m,∀r∈wait m,Rest P E r
 tr:∀x∈E,isN P x
 dn:∀(i:Nat) (p:PRD) (a:List SY),P[i]? =some p→a∈p.1→Done P E next wait i a
def setW (wait:Int→List RS) (m:Int) (l:List RS):Int→List RS:=fun x=>if x=m then l else wait x
theorem Fd.tru {P:List PRD} {E:List Int} {next:List RS} {wait:Int→List RS} (h:Fd P E next wait) {s:SY} (hs:inE E s=true):s.1=2∧isN P s.2.2:=by
 rw[inE_iff]at hs;exact⟨hs.1,h.tr _ hs.2⟩
theorem Fd.known {P:List PRD} {E:List Int} {next:List RS} {wait:Int→List RS} {r:RS} (h:Fd P E (next++[r]) wait) (hr:r.1∈E):Fd P E next wait:=by
 refine⟨fun x hx=>h.nx x (List.mem_append_left _ hx),h.wt,h.tr,fun i p a hp ha=> ?_⟩
 rcases h.dn i p a hp ha with h1|⟨pre,left,e,h1,h2⟩|h1
 ·exact .inl h1
 ·rcases List.mem_append.1 h2 with h2|h2
  ·exact .inr (.inl ⟨pre,left,e,h1,h2⟩)
  ·simp at h2
   refine .inl ?_
   rw[←h2]at hr;exact hr
 ·exact .inr (.inr h1)
theorem Fd.found {P:List PRD} {E:List Int} {next:List RS} {wait:Int→List RS} {r:RS} (h:Fd P E (next++[r]) wait) (hr:XV E r.2=[]):isN P r.1:=by
 obtain⟨i,p,pre,h1,h2,h3,h4⟩:=h.nx r (by simp)
 rw[h1]
 refine nu_closed h2 h3 fun s hs=> ?_
 rcases List.mem_append.1 hs with hs|hs
 ·exact h.tru (h4 s hs)
 ·exact h.tru (beh_nil.1 hr s hs)
theorem Fd.put {P:List PRD} {E:List Int} {next:List RS} {wait:Int→List RS} {r:RS} (h:Fd P E (next++[r]) wait) (hr:XV E r.2=[]):Fd P (E++[r.1]) (next++wait r.1) wait:=by
 have hn:=h.found hr
 refine⟨fun x hx=> ?_,fun m x hx=>(h.wt m x hx).more _,fun x hx=> ?_,fun i p a hp ha=> ?_⟩
 ·rcases List.mem_append.1 hx with hx|hx
  ·exact(h.nx x (List.mem_append_left _ hx)).more _
  ·exact(h.wt _ x hx).more _
 ·rcases List.mem_append.1 hx with hx|hx
  ·exact h.tr x hx
  ·simp at hx;subst hx;exact hn
 ·rcases h.dn i p a hp ha with h1|⟨pre,left,e,h1,h2⟩|⟨pre,s,left,e,h0,h1⟩
  ·exact .inl (List.mem_append_left _ h1)
  ·rcases List.mem_append.1 h2 with h2|h2
   ·exact .inr (.inl ⟨pre,left,e,fun s hs=>inE_mono _ (h1 s hs),List.mem_append_left _ h2⟩)
   ·simp at h2
    refine .inl (List.mem_append_right _ ?_)
    rw[←h2];simp
  ·have h0':∀s∈pre,inE (E++[r.1]) s=true:=fun s hs=>inE_mono _ (h0 s hs)
   by_cases hs:s.1=2
   ·obtain⟨h2,h3⟩:=h1 hs
    by_cases hx:s.2.2=r.1
    ·exact .inr (.inl ⟨pre,s::left,e,h0',List.mem_append_right _ (by rw[←hx];exact h3)⟩)
    ·refine .inr (.inr ⟨pre,s,left,e,h0',fun _=>⟨fun c=> ?_,h3⟩⟩)
     rcases List.mem_append.1 c with c|c
     ·exact h2 c
     ·simp at c;exact hx c
   ·exact .inr (.inr ⟨pre,s,left,e,h0',fun c=>absurd c hs⟩)
theorem Fd.stop {P:List PRD} {E:List Int} {next:List RS} {wait:Int→List RS} {r:RS} {s:SY} {t:List SY} (h:Fd P E (next++[r]) wait) (hr:XV E r.2=s::t) (hs:s.1≠2):Fd P E next wait:=by
 refine⟨fun x hx=>h.nx x (List.mem_append_left _ hx),h.wt,h.tr,fun i p a hp ha=> ?_⟩
 rcases h.dn i p a hp ha with h1|⟨pre,left,e,h1,h2⟩|h1
 ·exact .inl h1
 ·rcases List.mem_append.1 h2 with h2|h2
  ·exact .inr (.inl ⟨pre,left,e,h1,h2⟩)
  ·simp at h2
   obtain⟨k,hk,e2,hb⟩:=beh_drop E left
   have e3:XV E left=s::t:=by rw[←hr,←h2]
   refine .inr (.inr ⟨pre++left.take k,s,t,?_,fun x hx=> ?_,fun c=>absurd c hs⟩)
   ·rw[List.append_assoc,←e3,e2,List.take_append_drop];exact e
   ·rcases List.mem_append.1 hx with hx|hx
    ·exact h1 x hx
    ·exact hb x hx
 ·exact .inr (.inr h1)
theorem Fd.wait {P:List PRD} {E:List Int} {next:List RS} {wait:Int→List RS} {r:RS} {s:SY} {t:List SY} (h:Fd P E (next++[r]) wait) (hr:XV E r.2=s::t) (hs:s.1=2):Fd P E next (setW wait s.2.2 (wait s.2.2++[(r.1,XV E r.2)])):=by
 have hE:s.2.2∉E:=fun c=>by
  have:=beh_head hr
  rw[inE_iff.2 ⟨hs,c⟩]at this;cases this
 refine⟨fun x hx=>h.nx x (List.mem_append_left _ hx),fun m x hx=> ?_,h.tr,fun i p a hp ha=> ?_⟩
 ·unfold setW at hx
  split at hx
  ·rcases List.mem_append.1 hx with hx|hx
   ·exact h.wt _ x hx
   ·simp at hx;subst hx;exact(h.nx r (by simp)).beh
  ·exact h.wt m x hx
 ·rcases h.dn i p a hp ha with h1|⟨pre,left,e,h1,h2⟩|⟨pre,s',left,e,h0,h1⟩
  ·exact .inl h1
  ·rcases List.mem_append.1 h2 with h2|h2
   ·exact .inr (.inl ⟨pre,left,e,h1,h2⟩)
   ·simp at h2
    obtain⟨k,hk,e2,hb⟩:=beh_drop E left
    have e3:XV E left=s::t:=by rw[←hr,←h2]
    refine .inr (.inr ⟨pre++left.take k,s,t,?_,fun x hx=> ?_,fun _=>⟨hE,?_⟩⟩)
    ·rw[List.append_assoc,←e3,e2,List.take_append_drop];exact e
    ·rcases List.mem_append.1 hx with hx|hx
     ·exact h1 x hx
     ·exact hb x hx
    ·unfold setW
     rw[if_pos rfl,←h2]
     exact List.mem_append_right _ (by simp[e3])
  ·refine .inr (.inr ⟨pre,s',left,e,h0,fun c=> ?_⟩)
   obtain⟨g1,g2⟩:=h1 c
   refine⟨g1,?_⟩
   unfold setW
   split
   ·rename_i hx
    rw[hx]at g2
    exact List.mem_append_left _ g2
   ·exact g2
theorem Fd.done {P:List PRD} {E:List Int} {wait:Int→List RS} (h:Fd P E [] wait) (x:Int):x∈E↔isN P x:=by
 refine⟨h.tr x,nu_least (fun i=>i∈E) (fun i p a hp ha hs=> ?_) x⟩
 rcases h.dn i p a hp ha with h1|⟨pre,left,e,h1,h2⟩|⟨pre,s,left,e,h0,h1⟩
 ·exact h1
 ·simp at h2
 ·have:=hs s (by rw[e];simp)
  exact absurd this.2 (h1 this.1).1
theorem rests_mem:∀(P:List PRD) (n:Nat) (r:RS),r∈Xw P (n:Int)↔∃(i:Nat) (p:PRD),P[i]? =some p∧r.1=((n+i:Nat):Int)∧r.2∈p.1:=by
 intro P
 induction P with
 |nil=>intro n r;simp[Xw]
 |cons p P ih=>
  intro n r
  unfold Xw
  rw[List.mem_append,show(n:Int)+1=((n+1:Nat):Int) by omega,ih]
  constructor
  ·rintro(h|⟨i,q,h1,h2,h3⟩)
   ·obtain⟨a,ha,rfl⟩:=List.mem_map.1 h
    exact⟨0,p,rfl,rfl,ha⟩
   ·exact⟨i+1,q,by simpa using h1,by rw[h2];congr 1;omega,h3⟩
  ·rintro⟨i,q,h1,h2,h3⟩
   cases i with
   |zero=>
    simp at h1;subst h1
    exact .inl (List.mem_map.2 ⟨r.2,h3,by rw[Nat.add_zero]at h2;rw[←h2]⟩)
   |succ i=>exact .inr ⟨i,q,by simpa using h1,by rw[h2];congr 1;omega,h3⟩
theorem Fd.start (P:List PRD):Fd P [] (Xw P 0) (fun _=> []):=by
 refine⟨fun r hr=> ?_,fun m r hr=>(by cases hr),fun x hx=>(by cases hx),fun i p a hp ha=> ?_⟩
 ·obtain⟨i,p,h1,h2,h3⟩:=(rests_mem P 0 r).1 hr
  exact⟨i,p,[],by rw[h2];congr 1;omega,h1,h3,fun s hs=>by cases hs⟩
 ·refine .inr (.inl ⟨[],a,rfl,fun s hs=>(by cases hs),(rests_mem P 0 _).2 ⟨i,p,hp,?_,ha⟩⟩)
  simp
theorem rests_len (P:List PRD) (k:Nat) (h:∀p∈P,p.1.length≤k):∀n,(Xw P n).length≤k*P.length:=by
 induction P with
 |nil=>intro n;simp[Xw]
 |cons p P ih=>
  intro n
  have h1:=ih (fun q hq=>h q (List.mem_cons_of_mem _ hq)) (n+1)
  have h2:=h p List.mem_cons_self
  unfold Xw
  rw[List.length_append,List.length_map,List.length_cons,Nat.mul_add]
  omega
/-! ### How many wait, and how many are not known -/
def wsum (E:List Int) (wait:Int→List RS):Nat→Nat
 |0=>0
 |n+1=>wsum E wait n+if (n:Int)∈E then 0 else (wait (n:Int)).length
def unk (E:List Int):Nat→Nat
 |0=>0
 |n+1=>unk E n+if (n:Int)∈E then 0 else 1
theorem wsum_nil (E:List Int):∀n,wsum E (fun _=> []) n=0:=by
 intro n
 induction n with
 |zero=>rfl
 |succ n ih=>unfold wsum;rw[ih];simp
theorem mem_put {E:List Int} {x n:Nat} (h:n≠x):((n:Int)∈E++[(x:Int)])↔(n:Int)∈E:=by
 rw[List.mem_append]
 constructor
 ·rintro(h'|h')
  ·exact h'
  ·simp at h';omega
 ·exact .inl
theorem lt_step {x n:Nat} (h:n≠x) (a:Nat):(if x<n+1 then a else 0)=if x<n then a else 0:=by
 by_cases hl:x<n
 ·rw[if_pos hl,if_pos (by omega)]
 ·rw[if_neg hl,if_neg (by omega)]
theorem lt_self (n a:Nat):(if n<n+1 then a else 0)=a:=if_pos (by omega)
theorem lt_irr (n a:Nat):(if n<n then a else 0)=0:=if_neg (by omega)
theorem wsum_put {E:List Int} {wait:Int→List RS} {x:Nat} (hx:(x:Int)∉E):∀n,wsum (E++[(x:Int)]) wait n+(if x<n then (wait (x:Int)).length else 0)=wsum E wait n:=by
 intro n
 induction n with
 |zero=>simp[wsum]
 |succ n ih=>
  unfold wsum
  by_cases h:n=x
  ·subst h
   rw[lt_irr]at ih
   rw[lt_self,if_pos (by simp),if_neg hx]
   omega
  ·have hm:=mem_put (E:=E) h
   rw[lt_step h]
   by_cases hn:(n:Int)∈E
   ·rw[if_pos (hm.2 hn),if_pos hn];omega
   ·rw[if_neg (fun c=>hn (hm.1 c)),if_neg hn];omega
theorem wsum_set {E:List Int} {wait:Int→List RS} {x:Nat} {l:List RS} (hx:(x:Int)∉E):∀n,wsum E (setW wait x l) n+(if x<n then (wait (x:Int)).length else 0)=wsum E wait n+(if x<n then l.length else 0):=by
 intro n
 induction n with
 |zero=>simp[wsum]
 |succ n ih=>
  unfold wsum
  by_cases h:n=x
  ·subst h
   rw[lt_irr,lt_irr]at ih
   have e:setW wait n l (n:Int)=l:=by unfold setW;rw[if_pos rfl]
   rw[lt_self,lt_self,if_neg hx,if_neg hx,e]
   omega
  ·have e:setW wait x l (n:Int)=wait (n:Int):=by unfold setW;rw[if_neg (by omega)]
   rw[lt_step h,lt_step h,e]
   omega
theorem wsum_le {E:List Int} {wait:Int→List RS} {x n:Nat} (hx:(x:Int)∉E) (hn:x<n):(wait (x:Int)).length≤wsum E wait n:=by
 have:=wsum_put (wait:=wait) hx n
 rw[if_pos hn]at this
 omega
theorem unk_put {E:List Int} {x:Nat} (hx:(x:Int)∉E):∀n,unk (E++[(x:Int)]) n+(if x<n then 1 else 0)=unk E n:=by
 intro n
 induction n with
 |zero=>simp[unk]
 |succ n ih=>
  unfold unk
  by_cases h:n=x
  ·subst h
   rw[lt_irr]at ih
   rw[lt_self,if_pos (by simp),if_neg hx]
   omega
  ·have hm:=mem_put (E:=E) h
   rw[lt_step h]
   by_cases hn:(n:Int)∈E
   ·rw[if_pos (hm.2 hn),if_pos hn];omega
   ·rw[if_neg (fun c=>hn (hm.1 c)),if_neg hn];omega
def okN (P:List PRD):Prop:=∀p∈P,∀a∈p.1,∀s∈a,s.1=2→0≤s.2.2∧s.2.2<P.length
theorem Rest.non {P:List PRD} {E:List Int} {r:RS} (h:Rest P E r) (ok:okN P) {s:SY} (hs:s∈r.2) (h2:s.1=2):0≤s.2.2∧s.2.2<P.length:=by
 obtain⟨i,p,pre,-,h3,h4,-⟩:=h
 exact ok p (List.mem_of_getElem? h3) _ h4 s (List.mem_append_right _ hs) h2
theorem Rest.of {P:List PRD} {E:List Int} {r:RS} (h:Rest P E r):∃i:Nat,r.1=(i:Int)∧i<P.length:=by
 obtain⟨i,p,pre,h1,h3,-,-⟩:=h
 exact⟨i,h1,(List.getElem?_eq_some_iff.1 h3).1⟩
end Go.Proofs.YtcblkmlcbedomaaGreatDoor.Nl

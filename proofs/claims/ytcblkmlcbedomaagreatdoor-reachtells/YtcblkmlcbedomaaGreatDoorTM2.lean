/- Parts of the proof that stand ahead of it (T 2). -/
import GoSem.ClaimWide
import Derived.Test.YtcblkmlcbedomaaGreatDoorTM1
set_option linter.unusedVariables false
set_option linter.unusedSimpArgs false
set_option maxRecDepth 20000
set_option maxHeartbeats 16000000
namespace Go.Proofs.YtcblkmlcbedomaaGreatDoor.R
open Go.Proofs.YtcblkmlcbedomaaGreatDoor.T
abbrev TN:=Tk×Nat
abbrev PT:=DataW (Int×List Int×List (Int×Int)×Int)
def mk (k:Int) (t:List Int) (R:List (Int×Int)) (L:List PT) (q:Int):PT:= .agg (.held (k,t,R,q)::L)
def atP:PT→Int
 | .agg (.held h::_)=>h.2.2.2
 |_=>0
abbrev Res (α:Type):=Sum (Nat×Int) (α×List TN)
def e0:TN:=((-1,[],[]),0)
def hd (r:List TN):TN:=r.headD e0
def kd (r:List TN):Int:=(hd r).1.1
def tx (r:List TN):List Int:=(hd r).1.2.1
def rg (r:List TN):List (Int×Int):=(hd r).1.2.2
def pl (r:List TN):Nat:=(hd r).2
def isS (r:List TN) (c:Int):Bool:=decide (kd r=4∧tx r=[c])
def ZV (k:Int) (l:List PT) (q:Int):PT:=
 match l with
 | [p]=>p
 |l=>mk k [] [] l q
def oftK (r:List TN):Option Int:=if isS r 42 then some 6 else if isS r 43 then some 7 else if isS r 63 then some 8 else none
def oft (p:PT) (r:List TN):PT×List TN:=
 match oftK r with
 |some k=>(mk k [] [] [p] (atP p),r.tail)
 |none=>(p,r)
def vu (grp:List TN→Res PT) (r:List TN):Option (Res PT):=
 if kd r=0 then some (.inr (mk 0 (tx r) [] [] (pl r),r.tail))
 else if kd r=1 then some (.inr (mk 1 (tx r) [] [] (pl r),r.tail))
 else if kd r=2 then some (.inr (mk 2 [] (rg r) [] (pl r),r.tail))
 else if kd r=3 then some (.inr (mk 3 [] (rg r) [] (pl r),r.tail))
 else if isS r 40 then some (grp r)
 else none
def seqF (grp:List TN→Res PT):Nat→Int→List PT→List TN→Res PT
 |0,q,acc,r=> .inr (ZV 4 acc q,r)
 |f+1,q,acc,r=>
  match vu grp r with
  |none=> .inr (ZV 4 acc q,r)
  |some (.inl e)=> .inl e
  |some (.inr (p,r1))=>seqF grp f q (acc++[(oft p r1).1]) (oft p r1).2
def seqL (grp:List TN→Res PT) (r:List TN):Res PT:=seqF grp r.length (pl r) [] r
def altF (grp:List TN→Res PT):Nat→PT→List PT→List TN→Res PT
 |0,p0,acc,r=> .inr (ZV 5 acc (atP p0),r)
 |f+1,p0,acc,r=>
  if isS r 124 then
   match seqL grp r.tail with
   | .inl e=> .inl e
   | .inr (p,r1)=>altF grp f p0 (acc++[p]) r1
  else .inr (ZV 5 acc (atP p0),r)
def altL (grp:List TN→Res PT) (r:List TN):Res PT:=
 match seqL grp r with
 | .inl e=> .inl e
 | .inr (p,r1)=>altF grp r.length p [p] r1
def closeL:Res PT→Res PT
 | .inl e=> .inl e
 | .inr (p,r)=>if isS r 41 then .inr (p,r.tail)else .inl (pl r,3)
def jX:Nat→List TN→Res PT
 |0,r=> .inl (pl r,4)
 |d+1,r=>closeL (altL (jX d) r.tail)
def ve:Nat→List (List Int)→List TN→Res (List (List Int))
 |0,acc,r=> .inl (pl r,3)
 |f+1,acc,r=>
  if kd r=1 then
   if acc.length=8 then .inl (pl r,7)else ve f (acc++[tx r]) r.tail
  else if acc=[]then .inl (pl r,3)
  else if isS r 59 then .inr (acc,r.tail)else .inl (pl r,3)
def keysL (r:List TN):Res (List (List Int)):=if isS r 37 then ve r.length [] r.tail else .inr ([],r)
def bitOf (t:List Int):Nat:=
 if t=[108,111,110,103]then 1 else if t=[114,101,115]then 2 else if t=[111,102,102]then 4
 else if t=[98,108,111,99,107]then 8 else if t=[97,108,105,103,110]then 16 else if t=[115,121,110,99]then 32 else 0
def Yu:Nat→Nat→List TN→Nat×List TN
 |0,b,r=>(b,r)
 |f+1,b,r=>if kd r=5 then Yu f (b|||bitOf (tx r)) r.tail else (b,r)
def jZ (r:List TN):Nat×List TN:=Yu r.length 0 r
def notL (r:List TN):Res (List (Int×Int)):=
 if isS r 47 then (if kd r.tail=2 then .inr (rg r.tail,r.tail.tail)else .inl (pl r.tail,3))else .inr ([],r)
abbrev RU:=List Int×Int×PT×List (Int×Int)×Int
def kz (n:Nat) (r:List TN):Res RU:=
 let m:=jZ r
 if kd m.2=0 then
  if n=16 then .inl (pl m.2,7)
  else if isS m.2.tail 61 then
   match altL (jX 12) m.2.tail.tail with
   | .inl e=> .inl e
   | .inr (p,r1)=>
    match notL r1 with
    | .inl e=> .inl e
    | .inr (N,r2)=>if isS r2 59 then .inr ((tx m.2,(m.1:Int),p,N,((pl m.2:Nat):Int)),r2.tail)else .inl (pl r2,3)
  else .inl (pl m.2.tail,3)
 else .inl (pl m.2,3)
def xW:Nat→List RU→List TN→Res (List RU)
 |0,acc,r=> .inl (pl r,3)
 |f+1,acc,r=>
  if acc≠[]∧kd r= -1 then .inr (acc,r)
  else
   match kz acc.length r with
   | .inl e=> .inl e
   | .inr (u,r1)=>xW f (acc++[u]) r1
def Yq (r:List TN):Sum (Nat×Int) (List (List Int)×List RU):=
 match keysL r with
 | .inl e=> .inl e
 | .inr (k,r1)=>
  match xW (r.length+1) [] r1 with
  | .inl e=> .inl e
  | .inr (l,_)=> .inr (k,l)
def fileL (s:List Int):Sum (Nat×Int) (List (List Int)×List RU):=
 match kV s with
 | .inl e=> .inl e
 | .inr ts=>Yq (ts++[((-1,[],[]),s.length)])
/-! ### How much is left -/
theorem qj {r:List TN} (h:r≠[]):r.tail.length<r.length:=by
 cases r with
 |nil=>exact absurd rfl h
 |cons x r=>simp
theorem qx (p:PT) (r:List TN):(oft p r).2.length≤r.length:=by
 unfold oft
 split
 ·simp;try omega
 ·exact Nat.le_refl _
def Ends (r:List TN):Prop:=∃i n,r=i++[((-1,[],[]),n)]∧n≤1000000∧∀x∈i,okT x.1∧x.2≤1000000
theorem Ends.ne {r:List TN} (h:Ends r):r≠[]:=by
 obtain⟨i,n,rfl,-,-⟩:=h
 simp
theorem Ends.tail {r:List TN} (h:Ends r) (hk:kd r≠-1):Ends r.tail:=by
 obtain⟨i,n,rfl,hn,h⟩:=h
 cases i with
 |nil=>exact absurd rfl hk
 |cons x i=>exact⟨i,n,rfl,hn,fun y hy=>h y (List.mem_cons_of_mem _ hy)⟩
theorem Ends.pl {r:List TN} (h:Ends r):pl r≤1000000:=by
 obtain⟨i,n,rfl,hn,h⟩:=h
 cases i with
 |nil=>exact hn
 |cons x i=>exact(h x (List.mem_cons_self ..)).2
theorem isS_kd {r:List TN} {c:Int} (h:isS r c=true):kd r=4:=(of_decide_eq_true h).1
theorem isS_tx {r:List TN} {c:Int} (h:isS r c=true):tx r=[c]:=(of_decide_eq_true h).2
theorem Ends.sign {r:List TN} (h:Ends r) {c:Int} (hs:isS r c=true):Ends r.tail:=h.tail (by rw[isS_kd hs];decide)
theorem Ends.oft {r:List TN} (h:Ends r) (p:PT):Ends (oft p r).2:=by
 unfold R.oft oftK
 by_cases h1:isS r 42=true
 ·rw[if_pos h1];exact h.sign h1
 ·rw[if_neg h1]
  by_cases h2:isS r 43=true
  ·rw[if_pos h2];exact h.sign h2
  ·rw[if_neg h2]
   by_cases h3:isS r 63=true
   ·rw[if_pos h3];exact h.sign h3
   ·rw[if_neg h3];exact h
end Go.Proofs.YtcblkmlcbedomaaGreatDoor.R
namespace Go.Proofs.YtcblkmlcbedomaaGreatDoor.F
open Go.Proofs.YtcblkmlcbedomaaGreatDoor.T Go.Proofs.YtcblkmlcbedomaaGreatDoor.R
abbrev SY:=Int×List (Int×Int)×Int
abbrev PRD:=List (List SY)×Int×List (Int×Int)
def kdP:PT→Int
 | .agg (.held h::_)=>h.1
 |_=>0
def txP:PT→List Int
 | .agg (.held h::_)=>h.2.1
 |_=> []
def rgP:PT→List (Int×Int)
 | .agg (.held h::_)=>h.2.2.1
 |_=> []
def psP:PT→List PT
 | .agg (.held _::l)=>l
 |_=> []
@[simp] theorem kd_mk (k:Int) (t:List Int) (R:List (Int×Int)) (L:List PT) (q:Int):kdP (mk k t R L q)=k:=rfl
@[simp] theorem tx_mk (k:Int) (t:List Int) (R:List (Int×Int)) (L:List PT) (q:Int):txP (mk k t R L q)=t:=rfl
@[simp] theorem rg_mk (k:Int) (t:List Int) (R:List (Int×Int)) (L:List PT) (q:Int):rgP (mk k t R L q)=R:=rfl
@[simp] theorem ps_mk (k:Int) (t:List Int) (R:List (Int×Int)) (L:List PT) (q:Int):psP (mk k t R L q)=L:=rfl
structure Mk where
 made:List PRD
 left:Int
 pl:Int
 why:Int
def Mk.stop (m:Mk) (q y:Int):Mk:=if m.why=0 then ⟨m.made,m.left,q,y⟩else m
def ji (l:List SY) (s:SY):List SY:=if 40<l.length then l else l++[s]
def longB (l:List SY):Bool:=decide (40<l.length)
def fitsB (a:List (List SY)):Bool:=decide (1≤a.length)&&(decide (a.length≤8)&& !(a.any longB))
def setA:List PRD→Nat→List (List SY)→List PRD
 | [],_,_=> []
 |p::l,0,a=>(a,p.2)::l
 |p::l,n+1,a=>p::setA l n a
theorem setA_len (a:List (List SY)):∀(l:List PRD) (n:Nat),(setA l n a).length=l.length:=by
 intro l
 induction l with
 |nil=>intro n;rfl
 |cons p l ih=>
  intro n
  cases n with
  |zero=>rfl
  |succ n=>simp[setA,ih n]
def Mk.fin (m:Mk) (n:Nat) (q:Int) (a:List (List SY)):Mk:=
 if fitsB a then ⟨setA m.made n a,m.left,m.pl,m.why⟩else ⟨setA (m.stop q 7).made n a,(m.stop q 7).left,(m.stop q 7).pl,(m.stop q 7).why⟩
def idx (x:List Int):List (List Int)→Nat→Option Nat
 | [],_=>none
 |y::l,i=>if x=y then some i else idx x l (i+1)
def callS (ns:List (List Int)) (m:Mk) (l:List SY) (p:PT):Mk×List SY:=
 match idx (txP p) ns 0 with
 |some n=>(m,ji l (2,[],(n:Int)))
 |none=>(m.stop (atP p) 5,ji l (2,[],0))
def vX:List Int→List SY→List SY
 | [],l=>l
 |c::t,l=>if 40<l.length then l else vX t (ji l (0,[(c,c)],0))
abbrev PF:=Mk→List SY→PT→Mk×List SY
def Za (f:PF):List PT→Mk→List SY→Mk×List SY
 | [],m,l=>(m,l)
 |p::ps,m,l=>if m.why≠0 then (m,l)else Za f ps (f m l p).1 (f m l p).2
def jx (f:PF):List PT→Mk→List (List SY)→Mk×List (List SY)
 | [],m,a=>(m,a)
 |p::ps,m,a=>if m.why≠0 then (m,a)else jx f ps (f m [] p).1 (if a.length≤8 then a++[(f m [] p).2]else a)
def xV (f:PF) (p:PT) (m:Mk):Mk×List SY:=
 match psP p with
 | [x]=>f m [] x
 |_=>(m.stop (atP p) 7,[])
def kW (f:PF) (p:PT) (n:Nat) (m:Mk):Mk×List (List SY):=
 if kdP p=5 then jx f (psP p) m []
 else if kdP p=6 then ((xV f p m).1,[ji (xV f p m).2 (2,[],(n:Int)),[]])
 else if kdP p=7 then ((xV f p m).1,[ji (xV f p m).2 (2,[],(n:Int)),(xV f p m).2])
 else ((xV f p m).1,[(xV f p m).2,[]])
def kw (f:PF) (m:Mk) (l:List SY) (p:PT):Mk×List SY:=
 if m.made.length=60 then (m.stop (atP p) 7,l)
 else (((kW f p m.made.length ⟨m.made++[([],0,[])],m.left,m.pl,m.why⟩).1).fin m.made.length (atP p) (kW f p m.made.length ⟨m.made++[([],0,[])],m.left,m.pl,m.why⟩).2,ji l (2,[],(m.made.length:Int)))
def j4 (ns:List (List Int)) (f:PF):PF:=fun m l p=>
 if kdP p=0 then callS ns m l p
 else if kdP p=1 then (m,vX (txP p) l)
 else if kdP p=2 then (m,ji l (1,rgP p,0))
 else if kdP p=3 then (m,ji l (0,rgP p,0))
 else if kdP p=4 then Za f (psP p) m l
 else kw f m l p
def zQ (ns:List (List Int)):Nat→Int→PF
 |0,_=>fun m l _=>(m,l)
 |n+1,d=>fun m l p=>
  if kdP p<0∨9≤kdP p∨d=131072∨m.left=0 then (m.stop (atP p) 7,l)
  else j4 ns (zQ ns n (d+1)) ⟨m.made,m.left-1,m.pl,m.why⟩ l p
def kj (ns:List (List Int)) (n:Nat) (p:PT) (m:Mk):Mk×List (List SY):=
 if kdP p=5 then jx (zQ ns n 0) (psP p) m []else ((zQ ns n 0 m [] p).1,[(zQ ns n 0 m [] p).2])
def Zy (ns:List (List Int)) (n:Nat):List RU→Nat→Mk→Mk
 | [],_,m=>m
 |r::l,i,m=>if m.why≠0 then m else Zy ns n l (i+1) ((kj ns n r.2.2.1 m).1.fin i (atP r.2.2.1) (kj ns n r.2.2.1 m).2)
def Z8:List RU→List (List Int)→Option Int
 | [],_=>none
 |r::l,ns=>if r.1∈ns then some r.2.2.2.2 else Z8 l (ns++[r.1])
def begM (l:List RU):Mk:=
 match Z8 l []with
 |some q=>⟨[],2147483647,q,6⟩
 |none=>if l.length=0∨60<l.length then ⟨[],2147483647,0,7⟩else ⟨l.map fun r=>([],r.2.1,r.2.2.2.1),2147483647,0,0⟩
def Zu (n:Nat) (l:List RU):Mk:=Zy (l.map (·.1)) n l 0 (begM l)
theorem rulesM_bad (ns:List (List Int)) (n:Nat) (l:List RU) (i:Nat) (m:Mk) (h:m.why≠0):Zy ns n l i m=m:=by
 cases l with
 |nil=>rfl
 |cons r l=>unfold Zy;rw[if_pos h]
abbrev GR:=List PRD×List (List Int)
def flatL (n:Nat) (f:List (List Int)×List RU):Sum (Int×Int) GR:=
 if (Zu n f.2).why=0 then .inr ((Zu n f.2).made,f.1)else .inl ((Zu n f.2).pl,(Zu n f.2).why)
end Go.Proofs.YtcblkmlcbedomaaGreatDoor.F
namespace Go.Proofs.YtcblkmlcbedomaaGreatDoor.Nl
open Go.Proofs.YtcblkmlcbedomaaGreatDoor.F
def nulS (is:List Bool) (s:SY):Bool:=decide (s.1=2)&&(decide (0≤s.2.2)&&is.getD s.2.2.toNat false)
def nulA (is:List Bool) (l:List SY):Bool:=l.all (nulS is)
def stepL (P:List PRD) (is:List Bool):List Bool:=P.map fun p=>p.1.any (nulA is)
def itL (P:List PRD):Nat→List Bool
 |0=>List.replicate P.length false
 |k+1=>stepL P (itL P k)
def nuL (P:List PRD):List Bool:=itL P P.length
/-! ### What is found, as it is known -/
abbrev RS:=Int×List SY
/-! ### How many wait, and how many are not known -/
end Go.Proofs.YtcblkmlcbedomaaGreatDoor.Nl
namespace Go.Proofs.YtcblkmlcbedomaaGreatDoor.Rc
open Go.Proofs.YtcblkmlcbedomaaGreatDoor.F
def symsA:List SY→List Int
 | []=> []
 |s::l=>if s.1=2 then s.2.2::symsA l else symsA l
def symsP (p:PRD):List Int:=p.1.flatMap symsA
def symsN (P:List PRD) (n:Nat):List Int:=match P[n]? with|some p=>symsP p|none=> []
def wi (P:List PRD):Nat→Nat→Int→Prop
 |0,n,x=>x∈symsN P n
 |k+1,n,x=>∃m:Nat,wi P k n (m:Int)∧x∈symsN P m
def Wi (P:List PRD) (n:Nat) (x:Int):Prop:=∃k,wi P k n x
def bt (S:List Bool) (i:Nat):Bool:=S.getD i false
def hsB (l:List (Int×Int)):Bool:=decide (0<l.length)&&(U.zo (l.getD 0 (0,0)).1||U.zo (l.getD (l.length-1) (0,0)).2)
def syT (T:Int→Prop) (s:SY):Prop:=if s.1=0 then 0<s.2.1.length else if s.1=1 then hsB s.2.1=true else T s.2.2
def alT (T:Int→Prop) (l:List SY):Prop:=∀s∈l,syT T s
def prT (P:List PRD) (T:Int→Prop) (n:Nat):Prop:=∃p,P[n]? =some p∧∃a∈p.1,alT T a
def tx (P:List PRD):Nat→Int→Prop
 |0,_=>False
 |k+1,x=>∃n:Nat,x=(n:Int)∧prT P (tx P k) n
end Go.Proofs.YtcblkmlcbedomaaGreatDoor.Rc

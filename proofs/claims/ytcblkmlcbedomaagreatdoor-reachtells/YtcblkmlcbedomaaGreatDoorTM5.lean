/- Parts of the proof that stand ahead of it (T 5). -/
import Derived.Test.YtcblkmlcbedomaaGreatDoorChecked
import Derived.WalkSpells
import Derived.WalkLawsBesides
import Derived.Laws.EntriesVeiled
import Derived.OrdersHeld
import Derived.Test.YtcblkmlcbedomaaGreatDoorTM1
set_option linter.unusedVariables false
set_option linter.unusedSimpArgs false
set_option maxRecDepth 20000
set_option maxHeartbeats 16000000
namespace Go.Proofs.YtcblkmlcbedomaaGreatDoor
open Go.RowKit
def yQ (n:Int):Prop:= -9223372036854775808≤n∧n≤9223372036854775807
structure Rs (w:World) (a:Option Addr) (len cap:Nat) (l:List (Int×Int)):Prop where
 hlen:l.length=len
 hcap:len≤cap
 hmax:cap≤maxLen
 hfit:∀r∈l,yQ r.1∧yQ r.2
 hcell:∀i,i<len→∃b off,a=some ⟨b,off,none⟩∧w.cell? ⟨b,off+i*2,none⟩=some (.int .i64 (l.getD i (0,0)).1)∧w.cell? ⟨b,off+i*2+1,none⟩=some (.int .i64 (l.getD i (0,0)).2)
structure Rb (w:World) (b off len cap:Nat) (l:List (Int×Int)):Prop where
 hlen:l.length=len
 hpos:1≤len
 hcap:len≤cap
 hmax:cap≤maxLen
 hfit:∀r∈l,yQ r.1∧yQ r.2
 hcell:∀i,i<len→w.cell? ⟨b,off+i*2,none⟩=some (.int .i64 (l.getD i (0,0)).1)∧w.cell? ⟨b,off+i*2+1,none⟩=some (.int .i64 (l.getD i (0,0)).2)
theorem Rs.open {w:World} {a:Option Addr} {len cap:Nat} {l:List (Int×Int)} (h:Rs w a len cap l) (hp:1≤len):∃b off,a=some ⟨b,off,none⟩∧Rb w b off len cap l:=by
 obtain⟨b,off,ha,hc⟩:=h.hcell 0 (by omega)
 refine⟨b,off,ha,h.hlen,hp,h.hcap,h.hmax,h.hfit,fun i hi=> ?_⟩
 obtain⟨b',off',ha',hc'⟩:=h.hcell i hi
 rw[ha]at ha'
 injection ha' with e
 injection e with e1 e2
 subst e1;subst e2
 exact hc'
theorem Rs.nil (w:World):Rs w none 0 0 []:=⟨rfl,Nat.le_refl _,Nat.zero_le _,fun r hr=>(by cases hr),fun i hi=>(by omega)⟩
theorem Rb.at {w:World} {b off len cap:Nat} {l:List (Int×Int)} (h:Rb w b off len cap l) (k:Nat) (hk:k<len):
  ∃lo hi,l.drop k=(lo,hi)::l.drop (k+1)∧l.take (k+1)=l.take k++[(lo,hi)]∧yQ lo∧yQ hi∧w.cell? ⟨b,off+k*2,none⟩=some (.int .i64 lo)∧w.cell? ⟨b,off+k*2+1,none⟩=some (.int .i64 hi):=by
 have hl:=h.hlen
 have hc:=h.hcell k hk
 have hk':k<l.length:=by omega
 have e:l.getD k (0,0)=l[k]:=by simp[List.getD,hk']
 rw[e]at hc
 have hf:=h.hfit l[k] (List.getElem_mem hk')
 refine⟨l[k].1,l[k].2,?_,?_,hf.1,hf.2,hc.1,hc.2⟩
 ·exact List.drop_eq_getElem_cons hk'
 ·exact List.take_succ_eq_append_getElem hk'
theorem zJ {w:World} {b o:Nat} {v:Value} (h:w.cell? ⟨b,o,none⟩=some v):b<w.heap.size:=block_lt_of_cell h
theorem Rs.later {w w':World} {a:Option Addr} {len cap:Nat} {l:List (Int×Int)} (h:Rs w a len cap l) {B:Nat} (hb:Below B w w') (hB:w.heap.size≤B):Rs w' a len cap l:=by
 refine⟨h.hlen,h.hcap,h.hmax,h.hfit,fun i hi=> ?_⟩
 obtain⟨b,off,ha,hc,hd⟩:=h.hcell i hi
 have hlt:b<w.heap.size:=zJ hc
 exact⟨b,off,ha,by rw[hb.cell (p:=⟨b,off+i*2,none⟩) (Nat.lt_of_lt_of_le hlt hB)];exact hc,by rw[hb.cell (p:=⟨b,off+i*2+1,none⟩) (Nat.lt_of_lt_of_le hlt hB)];exact hd⟩
theorem ret_bool {a b:Bool} (h:a=b):Ending.returned (.bool a)= .returned (.bool b):=by rw[h]
theorem ret_int {a b:Int} (h:a=b):Ending.returned (.int .i64 a)= .returned (.int .i64 b):=by rw[h]
theorem zk {p:Prop} (h:p):Hid p:=h
theorem zq {p:Prop} (h:Hid p):p:=h
theorem tkh {P:Program} {md:Region.Mode} {ops:Array Oper} {Q:Exit→Act→World→Prop} {S:World→Prop} {oi:Oper} {fuel:Nat} {listed:Array Bool} {a:Act} {w:World} (i:Nat) (v:Value) (hi:ops[i]? =some oi)
  (hb:(Region.noSelect ops&&(Region.free md ops listed i&&((Region.ready md ops listed).contains i&&Region.wanted oi (yielded ops a.tmps))))=true)
  (hQ:∀c a w,Q (.panic c) (a.put oi.dst v) w→Q (.panic c) a w) (hy:∀w,S w→(execOp a.eval oi).run P w= .ok (.value v) w) (hS:S w)
  (h:wpAnyH P md ops Q S fuel (listed.setIfInBounds i true) (a.put oi.dst v) w):wpAnyH P md ops Q S (fuel+1) listed a w:=by
 simp only[Bool.and_eq_true]at hb
 exact wpAnyH_take hi hb.1 hb.2.1 hb.2.2.1 hQ (.inl ⟨hb.2.2.2,hy⟩) hS h
theorem pls {α:Type}:(∀(a:Act) (d:Tmp) (v:Value),a.put (some d) v={a with tmps:=a.tmps.setIfInBounds d v})∧(∀(a:Act) (v:Value),a.put none v=a)∧(∀(l:List α) (i:Nat) (x:α),l.toArray.setIfInBounds i x=(l.set i x).toArray)∧
  (∀(l:List α) (i:Nat) (h:i<l.toArray.size),l.toArray[i]=l[i]'(by simpa using h))∧(∀(x y:α) (l:List α),(x::l).set 0 y=y::l)∧(∀(x y:α) (l:List α) (i:Nat),(x::l).set (i+1) y=x::l.set i y)∧
  (∀(x:α) (l:List α) (h:0<(x::l).length),(x::l)[0]=x)∧(∀(x:α) (l:List α) (i:Nat) (h:i+1<(x::l).length),(x::l)[i+1]=l[i]'(by simpa using h)):=
 ⟨fun _ _ _=>rfl,fun _ _=>rfl,fun _ _ _=>by simp,fun _ _ _=>rfl,fun _ _ _=>rfl,fun _ _ _ _=>rfl,fun _ _ _=>rfl,fun _ _ _ _=>rfl⟩
theorem Below.new1 {w:World} (o:Obj):Below w.heap.size w (w.alloc o):=(Below.refl _ _).alloc (Nat.le_refl _) o
abbrev boxRg (lo hi:Int):Obj:= .cells #[.int .i64 lo,.int .i64 hi] 51
namespace G
theorem endOf_mem {least:Int} {l:List (Int×Int)} (h:yZ least l=true) {r:Int×Int} (hr:r∈l):r.2+2≤endOf least l:=by
 induction l generalizing least with
 |nil=>cases hr
 |cons x t ih=>
  rw[mayFrom_cons]at h
  have e:∀(t:List (Int×Int)) (c:Int),yZ c t=true→c≤endOf c t:=by
   intro t
   induction t with
   |nil=>intro c _;exact Int.le_refl _
   |cons y u ihu=>intro c hc;rw[mayFrom_cons]at hc;have:=ihu _ hc.2.2.2;show c≤endOf (y.2+2) u;omega
  rcases List.mem_cons.1 hr with rfl|hr
  ·exact e t _ h.2.2.2
  ·exact ih h.2.2.2 hr
def sideA (l:List (Int×Int)) (n:Int) (i:Nat):Prop:=∀r∈l.take i,r.2<n
def sideB (l:List (Int×Int)) (n:Int) (j:Nat):Prop:=∀r∈l.drop j,n≤r.2
theorem may_cut {l:List (Int×Int)} (h:zo l=true) {k:Nat} {lo hi:Int} {t:List (Int×Int)} (hd:l.drop k=(lo,hi)::t):(∀r∈l.take k,r.2+2≤lo)∧lo≤hi∧yZ (hi+2) t=true∧0≤lo∧hi≤1114111:=by
 have e:l=l.take k++l.drop k:=(List.take_append_drop k l).symm
 have m:(lo,hi)∈l:=by rw[e,hd];simp
 have b:=may_mem h m
 unfold zo at h
 rw[e,mayFrom_append,hd,mayFrom_cons]at h
 simp only at h b
 exact⟨fun r hr=>by have:=endOf_mem h.1 hr;omega,h.2.2.1,h.2.2.2.2,b.1,b.2.2⟩
theorem sideA_step {l:List (Int×Int)} {n:Int} (h:zo l=true) {k:Nat} {lo hi:Int} {t:List (Int×Int)} (hd:l.drop k=(lo,hi)::t) (ht:l.take (k+1)=l.take k++[(lo,hi)]) (hn:hi<n):sideA l n (k+1):=by
 obtain⟨h1,h2,_⟩:=may_cut h hd
 intro r hr
 rw[ht]at hr
 rcases List.mem_append.1 hr with hr|hr
 ·have:=h1 r hr;omega
 ·simp at hr;subst hr;exact hn
theorem sideB_step {l:List (Int×Int)} {n:Int} (h:zo l=true) {k:Nat} {lo hi:Int} {t:List (Int×Int)} (hd:l.drop k=(lo,hi)::t) (hn:n≤hi):sideB l n k:=by
 obtain⟨_,h2,h3,_⟩:=may_cut h hd
 intro r hr
 rw[hd]at hr
 rcases List.mem_cons.1 hr with rfl|hr
 ·exact hn
 ·have:=may_mem h3 hr;omega
theorem side_end {l:List (Int×Int)} {n:Int} {k:Nat} (ha:sideA l n k):hasB l n=hasB (l.drop k) n:=by
 have e:l=l.take k++l.drop k:=(List.take_append_drop k l).symm
 have f:hasB (l.take k) n=false:=by
  unfold hasB
  rw[List.any_eq_false]
  intro r hr
  have:=ha r hr
  simp;omega
 rw[show hasB l n=hasB (l.take k++l.drop k) n by rw[←e],qZ,f,Bool.false_or]
theorem side_found {l:List (Int×Int)} {n:Int} (h:zo l=true) {k:Nat} {lo hi:Int} {t:List (Int×Int)} (ha:sideA l n k) (hb:sideB l n k) (hd:l.drop k=(lo,hi)::t):hasB l n=decide (lo≤n):=by
 obtain⟨_,h2,h3,_⟩:=may_cut h hd
 have:=hb (lo,hi) (by rw[hd];simp)
 simp only at this
 rw[side_end ha,hd,yK,Y9 h3 (by omega)]
 simp[this]
end G
def sideI (lo hi n:Int):Int:=if hi<n then-1 else if n<lo then 1 else 0
theorem side_any (lo hi n:Int) (w:World):
  Calls Tryz.prog 259 #[.agg #[.int .i64 lo,.int .i64 hi],.int .i64 n] w fun e w'=>e= .returned (.int .i64 (sideI lo hi n))∧w'=w.alloc (boxRg lo hi):=by
 unfold sideI
 by_cases h1:hi<n
 ·rw[if_pos h1]
  go_enter Tryz.func259,Tryz.ntmps259
  go_wp2
  go_ret
  exact⟨rfl,rfl⟩
 ·rw[if_neg h1]
  by_cases h2:n<lo
  ·rw[if_pos h2]
   go_enter Tryz.func259,Tryz.ntmps259
   go_wp2
   go_ret
   exact⟨rfl,rfl⟩
  ·rw[if_neg h2]
   go_enter Tryz.func259,Tryz.ntmps259
   go_wp2
   go_ret
   exact⟨rfl,rfl⟩
theorem search_any (a:Option Addr) (len cap:Nat) (l:List (Int×Int)) (n:Int) (w:World) (h:Rs w a len cap l) (hm:G.zo l=true) (hs:len≤1000000):
  Calls Tryz.prog 258 #[.slice a len cap,.int .i64 n,.func (.func 259) #[] #[]] w fun e w'=>(∃r:Int,e= .returned (.tuple #[.int .i64 r,.bool (G.hasB l n)]))∧Below w.heap.size w w':=by
 have hl:=h.hlen
 have hmax:=h.hmax
 have hcap:=h.hcap
 unfold maxLen at hmax
 go_enter Tryz.func258,Tryz.ntmps258
 go_wp2
 go_loopw [9,10] (fun i j wr=>∃(p q:Nat),p≤q∧q≤len∧i= .int .i64 p∧j= .int .i64 q∧Hid (G.sideA l n p∧G.sideB l n q)∧Below w.heap.size w wr) (fun i j _=>(intOf j).toNat-(intOf i).toNat)
 case atStart=>exact⟨0,len,Nat.zero_le _,Nat.le_refl _,rfl,rfl,by show _∧_;exact⟨fun r hr=>by simp at hr,fun r hr=>by rw[List.drop_of_length_le (by omega)]at hr;cases hr⟩,Below.refl _ _⟩
 case round=>
  obtain⟨p,q,hpq,hq,rfl,rfl,hsd,hb⟩:=hrel
  by_cases hlt:p<q
  ·obtain⟨b,off,rfl,hr⟩:=(h.later hb (Nat.le_refl _)).open (by omega)
   obtain⟨lo,hi,hd,htk,f1,f2,c0,c1⟩:=hr.at ((p+q)/2) (by omega)
   have hA:Hid (hi<n→G.sideA l n ((p+q)/2+1)):=fun hx=>G.sideA_step hm hd htk hx
   have hB:Hid (n≤hi→G.sideB l n ((p+q)/2)):=fun hx=>G.sideB_step hm hd hx
   clear hd htk hr f1 f2
   by_cases t1:hi<n
   ·have hv:Hid (sideI lo hi n= -1):=by show _=_;unfold sideI;rw[if_pos t1]
    go_wp2_with (go_at_call 259;refine(side_any _ _ _ _).mono ?_;rw[hv.out];rintro e w' ⟨rfl,rfl⟩)
    go_roundw
    case rel=>exact⟨(p+q)/2+1,q,by omega,hq,by go_num,rfl,⟨hA.out t1,hsd.out.2⟩,hb.trans ((Below.new1 _).mono hb.size)⟩
    case measure=>simp[intOf];omega
   ·by_cases t2:n<lo
    ·have hv:Hid (sideI lo hi n=1):=by show _=_;unfold sideI;rw[if_neg t1,if_pos t2]
     go_wp2_with (go_at_call 259;refine(side_any _ _ _ _).mono ?_;rw[hv.out];rintro e w' ⟨rfl,rfl⟩)
     go_roundw
     case rel=>exact⟨p,(p+q)/2,by omega,by omega,rfl,by go_num,⟨hsd.out.1,hB.out (by omega)⟩,hb.trans ((Below.new1 _).mono hb.size)⟩
     case measure=>simp[intOf];omega
    ·have hv:Hid (sideI lo hi n=0):=by show _=_;unfold sideI;rw[if_neg t1,if_neg t2]
     go_wp2_with (go_at_call 259;refine(side_any _ _ _ _).mono ?_;rw[hv.out];rintro e w' ⟨rfl,rfl⟩)
     go_roundw
     case rel=>exact⟨p,(p+q)/2,by omega,by omega,rfl,by go_num,⟨hsd.out.1,hB.out (by omega)⟩,hb.trans ((Below.new1 _).mono hb.size)⟩
     case measure=>simp[intOf];omega
  ·have hpq2:q=p:=by omega
   subst hpq2
   by_cases hin:q<len
   ·obtain⟨b,off,rfl,hr⟩:=(h.later hb (Nat.le_refl _)).open (by omega)
    obtain⟨lo,hi,hd,-,f1,f2,c0,c1⟩:=hr.at q hin
    have hx:n≤hi:=hsd.out.2 (lo,hi) (by rw[hd];simp)
    have fin:Hid (G.hasB l n=decide (lo≤n)):=G.side_found hm hsd.out.1 hsd.out.2 hd
    clear hd hr f1 f2
    by_cases t2:n<lo
    ·have hv:Hid (sideI lo hi n=1):=by show _=_;unfold sideI;rw[if_neg (by omega),if_pos t2]
     go_wp2_with (go_at_call 259;refine(side_any _ _ _ _).mono ?_;rw[hv.out];rintro e w' ⟨rfl,rfl⟩)
     go_ret2
     exact⟨⟨_,by rw[fin.out,decide_eq_false (by omega)];rfl⟩,hb.trans ((Below.new1 _).mono hb.size)⟩
    ·have hv:Hid (sideI lo hi n=0):=by show _=_;unfold sideI;rw[if_neg (by omega),if_neg t2]
     go_wp2_with (go_at_call 259;refine(side_any _ _ _ _).mono ?_;rw[hv.out];rintro e w' ⟨rfl,rfl⟩)
     go_ret2
     exact⟨⟨_,by rw[fin.out,decide_eq_true (by omega)];rfl⟩,hb.trans ((Below.new1 _).mono hb.size)⟩
   ·have fin:Hid (G.hasB l n=false):=by
     show _=_
     rw[G.side_end hsd.out.1,List.drop_of_length_le (by omega)];rfl
    go_wp2
    go_ret2
    exact⟨⟨_,by rw[fin.out];rfl⟩,hb⟩
theorem setHas_any (a:Option Addr) (len cap:Nat) (l:List (Int×Int)) (n:Int) (w:World) (h:Rs w a len cap l) (hm:G.zo l=true) (hs:len≤1000000):
  Calls Tryz.prog 239 #[.slice a len cap,.int .i64 n] w fun e w'=>e= .returned (.bool (G.hasB l n))∧Below w.heap.size w w':=by
 have hc:=search_any a len cap l n w h hm hs
 generalize G.hasB l n=r at*
 clear h hm
 go_enter Tryz.func239,Tryz.ntmps239
 go_wp2_with (go_at_call 258;refine hc.mono ?_;rintro e w' ⟨⟨x,rfl⟩,hb⟩)
 go_ret
 exact⟨rfl,hb⟩
def qX (l:List (Int×Int)) (i:Nat):Int:=(G.bs l).getD i 1114113
theorem bord_end {l:List (Int×Int)} {i:Nat} (h:l.length≤i/2):qX l i=1114113:=by
 unfold qX
 have:=G.YW l
 rw[List.getD_eq_getElem?_getD,List.getElem?_eq_none (by omega)];rfl
theorem bord_at {l:List (Int×Int)} {k:Nat} {lo hi:Int} {t:List (Int×Int)} (hd:l.drop k=(lo,hi)::t):qX l (2*k)=lo∧qX l (2*k+1)=hi+1:=by
 induction l generalizing k with
 |nil=>simp at hd
 |cons r u ih=>
  cases k with
  |zero=>simp at hd;obtain⟨rfl,rfl⟩:=hd;simp[qX,G.bs]
  |succ k=>
   have:=ih (k:=k) (by simpa using hd)
   rw[show 2*(k+1)=2*k+1+1 by omega,show 2*k+1+1+1=(2*k+1)+1+1 by omega]
   unfold qX at*
   simpa [G.bs] using this
theorem border_any (a:Option Addr) (len cap:Nat) (l:List (Int×Int)) (i:Nat) (w:World) (h:Rs w a len cap l) (hm:G.zo l=true) (hi:i≤2000000):
  Calls Tryz.prog 257 #[.slice a len cap,.int .i64 i] w fun e w'=>e= .returned (.int .i64 (qX l i))∧w'=w:=by
 have hl:=h.hlen
 have hmax:=h.hmax
 have hcap:=h.hcap
 unfold maxLen at hmax
 by_cases h1:len≤i/2
 ·rw[bord_end (by omega)]
  have h1':(len:Int)≤(i:Int)/2:=by omega
  go_enter Tryz.func257,Tryz.ntmps257
  go_wp2
  go_ret
  exact⟨rfl,rfl⟩
 ·obtain⟨b,off,rfl,hr⟩:=h.open (by omega)
  obtain⟨lo,hi,hd,-,f1,f2,c0,c1⟩:=hr.at (i/2) (by omega)
  have hb:=bord_at hd
  obtain⟨-,-,-,p0,p1⟩:=G.may_cut hm hd
  have q1:lo≤hi:=(G.may_cut hm hd).2.1
  have h1':(i:Int)/2<(len:Int):=by omega
  clear hd hr f1 f2 h
  by_cases h2:i%2=0
  ·have e:qX l i=lo:=by rw[←hb.1];congr 1;omega
   rw[e]
   clear hb e
   have h2':(((i:Int)%2)==0)=true:=by rw[beq_iff_eq];omega
   go_enter Tryz.func257,Tryz.ntmps257
   go_wp2
   go_ret
   exact⟨rfl,rfl⟩
  ·have e:qX l i=hi+1:=by rw[←hb.2];congr 1;omega
   rw[e]
   clear hb e
   have h2':(((i:Int)%2)==0)=false:=by rw[beq_eq_false_iff_ne];omega
   go_enter Tryz.func257,Tryz.ntmps257
   go_wp2
   go_ret
   exact⟨rfl,rfl⟩
end Go.Proofs.YtcblkmlcbedomaaGreatDoor
namespace Go.Proofs.YtcblkmlcbedomaaGreatDoor
open Go.RowKit
structure Pr (w:World) (a:Option Addr) (la ca:Nat) (A:List (Int×Int)) (b:Option Addr) (lb cb:Nat) (B:List (Int×Int)):Prop where
 ha:Rs w a la ca A
 hb:Rs w b lb cb B
 ma:G.zo A=true
 mb:G.zo B=true
theorem Pr.later {w w':World} {a:Option Addr} {la ca:Nat} {A:List (Int×Int)} {b:Option Addr} {lb cb:Nat} {B:List (Int×Int)} (h:Pr w a la ca A b lb cb B) {k:Nat} (hb:Below k w w') (hk:w.heap.size≤k):Pr w' a la ca A b lb cb B:=
 ⟨h.ha.later hb hk,h.hb.later hb hk,h.ma,h.mb⟩
theorem Pr.la {w:World} {a:Option Addr} {la ca:Nat} {A:List (Int×Int)} {b:Option Addr} {lb cb:Nat} {B:List (Int×Int)} (h:Pr w a la ca A b lb cb B):la≤1000000:=by
 have:=h.ha.hlen;have:=G.j6 h.ma;omega
theorem Pr.lb {w:World} {a:Option Addr} {la ca:Nat} {A:List (Int×Int)} {b:Option Addr} {lb cb:Nat} {B:List (Int×Int)} (h:Pr w a la ca A b lb cb B):lb≤1000000:=by
 have:=h.hb.hlen;have:=G.j6 h.mb;omega
abbrev boxPr (a:Option Addr) (la ca:Nat) (b:Option Addr) (lb cb:Nat):Obj:= .cells #[.slice a la ca,.slice b lb cb] 247
theorem less_any (a:Option Addr) (la ca:Nat) (A:List (Int×Int)) (b:Option Addr) (lb cb:Nat) (B:List (Int×Int)) (n:Int) (w:World) (h:Pr w a la ca A b lb cb B):
  Calls Tryz.prog 222 #[.agg #[.slice a la ca,.slice b lb cb],.int .i64 n] w fun e w'=>e= .returned (.bool ((fun x y=>x&& !y) (G.hasB A n) (G.hasB B n)))∧Below w.heap.size w w':=by
 have c1:=setHas_any a la ca A n _ (h.later (Below.new1 (boxPr a la ca b lb cb)) (Nat.le_refl _)).ha h.ma h.la
 have c2:=fun w1 (hb:Below w.heap.size w w1)=>setHas_any b lb cb B n w1 (h.later hb (Nat.le_refl _)).hb h.mb h.lb
 generalize G.hasB A n=x at*
 generalize G.hasB B n=y at*
 clear h
 have C1:=zk c1
 have C2:=zk c2
 clear c1 c2
 cases x with
 |false=>
  go_enter Tryz.func222,Tryz.ntmps222
  go_wp2_with fail
  refine(zq C1).mono ?_
  rintro e w1 ⟨rfl,hb1⟩
  go_wp2_with fail
  go_ret
  refine⟨ret_bool (by simp),?_⟩
  simp only[World.size_alloc]at hb1
  exact(Below.new1 _).trans (hb1.mono (by omega))
 |true=>
  go_enter Tryz.func222,Tryz.ntmps222
  go_wp2_with fail
  refine(zq C1).mono ?_
  rintro e w1 ⟨rfl,hb1⟩
  have hb:Below w.heap.size w w1:=(Below.new1 _).trans (hb1.mono (by simp))
  obtain⟨k1,k2⟩:(w1.cell? ⟨w.heap.size,0,none⟩=some (.slice a la ca))∧(w1.cell? ⟨w.heap.size,1,none⟩=some (.slice b lb cb)):=
   ⟨by rw[hb1.cell (p:=⟨w.heap.size,0,none⟩) (by simp)];rw[World.cell?_alloc_at _ _ _ _ rfl];rfl,by rw[hb1.cell (p:=⟨w.heap.size,1,none⟩) (by simp)];rw[World.cell?_alloc_at _ _ _ _ rfl];rfl⟩
  go_wp2_with fail
  refine(zq C2 _ hb).mono ?_
  rintro e w2 ⟨rfl,hb2⟩
  go_wp2_with fail
  go_ret
  exact⟨ret_bool (by simp),hb.trans (hb2.mono hb.size)⟩
end Go.Proofs.YtcblkmlcbedomaaGreatDoor

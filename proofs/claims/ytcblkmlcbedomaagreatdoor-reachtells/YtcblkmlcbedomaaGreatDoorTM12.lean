/- Parts of the proof that stand ahead of it (T 12). -/
import Derived.RangeFuncNested
import Derived.Shelf.RegionOpen
import Derived.OwnWalkIn
import Derived.LoopNIn
import Derived.LoopIn
import Derived.Test.YtcblkmlcbedomaaGreatDoorTM5
set_option linter.unusedVariables false
set_option linter.unusedSimpArgs false
set_option maxRecDepth 20000
set_option maxHeartbeats 16000000
namespace Go.Proofs.YtcblkmlcbedomaaGreatDoor
open Go.RowKit Go.Shelf
namespace G
theorem bs_le {l:List (Int×Int)} (h:zo l=true) {x:Int} (hx:x∈bs l):0≤x∧x≤1114112:=by
 have:=up_mem (bs_up h) hx;omega
end G
theorem bord_lt {l:List (Int×Int)} (h:G.zo l=true) {p:Nat} (hp:p<(G.bs l).length):0≤qX l p∧qX l p≤1114112∧(G.bs l).drop p=qX l p::(G.bs l).drop (p+1):=by
 have e:qX l p=(G.bs l)[p]:=by unfold qX;rw[List.getD_eq_getElem?_getD,List.getElem?_eq_getElem hp];rfl
 rw[e]
 have:=G.bs_le h (List.getElem_mem hp)
 exact⟨this.1,this.2,List.drop_eq_getElem_cons hp⟩
theorem bord_ge {l:List (Int×Int)} {p:Nat} (hp:(G.bs l).length≤p):qX l p=1114113∧(G.bs l).drop p=[]:=by
 refine⟨?_,List.drop_of_length_le hp⟩
 unfold qX
 rw[List.getD_eq_getElem?_getD,List.getElem?_eq_none hp];rfl
theorem mrg_next {A B:List (Int×Int)} (ha:G.zo A=true) (hb:G.zo B=true) (p q:Nat) (hp:p≤(G.bs A).length) (hq:q≤(G.bs B).length):
  (qX A p=1114113∧qX B q=1114113∧G.mrg ((G.bs A).drop p) ((G.bs B).drop q)=[])∨
  (qX A p<qX B q∧p+1≤(G.bs A).length∧qX A p≤1114112∧0≤qX A p∧qX B q≤1114113∧G.mrg ((G.bs A).drop p) ((G.bs B).drop q)=qX A p::G.mrg ((G.bs A).drop (p+1)) ((G.bs B).drop q))∨
  (qX B q<qX A p∧q+1≤(G.bs B).length∧qX B q≤1114112∧0≤qX B q∧qX A p≤1114113∧G.mrg ((G.bs A).drop p) ((G.bs B).drop q)=qX B q::G.mrg ((G.bs A).drop p) ((G.bs B).drop (q+1)))∨
  (qX A p=qX B q∧p+1≤(G.bs A).length∧q+1≤(G.bs B).length∧qX A p≤1114112∧0≤qX A p∧G.mrg ((G.bs A).drop p) ((G.bs B).drop q)=qX A p::G.mrg ((G.bs A).drop (p+1)) ((G.bs B).drop (q+1))):=by
 by_cases h1:p<(G.bs A).length
 ·obtain⟨a0,a1,a2⟩:=bord_lt ha h1
  by_cases h2:q<(G.bs B).length
  ·obtain⟨b0,b1,b2⟩:=bord_lt hb h2
   rw[a2,b2,G.mrg_cons]
   by_cases c1:qX A p<qX B q
   ·right;left;rw[if_pos c1];exact⟨c1,by omega,a1,a0,by omega,rfl⟩
   ·by_cases c2:qX B q<qX A p
    ·right;right;left;rw[if_neg c1,if_pos c2];exact⟨c2,by omega,b1,b0,by omega,rfl⟩
    ·right;right;right;rw[if_neg c1,if_neg c2];exact⟨by omega,by omega,by omega,a1,a0,rfl⟩
  ·obtain⟨b1,b2⟩:=bord_ge (l:=B) (p:=q) (by omega)
   right;left
   rw[a2,b2,b1,G.mrg_nil,G.mrg_nil]
   exact⟨by omega,by omega,a1,a0,by omega,rfl⟩
 ·obtain⟨a1,a2⟩:=bord_ge (l:=A) (p:=p) (by omega)
  by_cases h2:q<(G.bs B).length
  ·obtain⟨b0,b1,b2⟩:=bord_lt hb h2
   right;right;left
   rw[a2,b2,a1]
   exact⟨by omega,by omega,b1,b0,by omega,by simp[G.mrg_left]⟩
  ·obtain⟨b1,b2⟩:=bord_ge (l:=B) (p:=q) (by omega)
   left
   rw[a2,b2]
   exact⟨a1,b1,by simp[G.mrg_left]⟩
theorem Rs.drewN {w:World} {a:Option Addr} {len cap:Nat} {l:List (Int×Int)} (h:Rs w a len cap l) (k:Nat):Rs (w.drewN k) a len cap l:=
 ⟨h.hlen,h.hcap,h.hmax,h.hfit,fun i hi=>by
  obtain⟨b,off,ha,h1,h2⟩:=h.hcell i hi
  exact⟨b,off,ha,by simpa using h1,by simpa using h2⟩⟩
attribute [local go_sem] Oper.semAt_some
theorem borders_iter (n:Nat) (hn:3≤n) (lr:Nat) (a:Option Addr) (la ca:Nat) (A:List (Int×Int)) (b:Option Addr) (lb cb:Nat) (B:List (Int×Int)) (W:World) (J:List Int→World→Prop)
  (hP:∀pre W1,J pre W1→Pr W1 a la ca A b lb cb B)
  (hD:∀pre W1 k,J pre W1→J pre (W1.drewN k))
  (hY:∀pre x W1,J pre W1→W1.heap[W.heap.size]? =some (boxPr a la ca b lb cb)→(∃rest,pre++x::rest=G.mrg (G.bs A) (G.bs B))→YieldAt Fence.wide (n-1) Tryz.prog lr #[.int .i64 x] W1 fun e W'=>e= .returned (.bool true)∧J (pre++[x]) W'∧W'.heap[W.heap.size]? =some (boxPr a la ca b lb cb))
  (h0:J [] (W.alloc (boxPr a la ca b lb cb))):
  CallsIn Fence.wide n Tryz.prog 238 #[.agg #[.slice a la ca,.slice b lb cb],.func (.yield lr) #[] #[]] W fun e W'=>(∃v,e= .returned v)∧J (G.mrg (G.bs A) (G.bs B)) W':=by
 have h1n:1≤n:=by omega
 have h1m:1≤n-1:=by omega
 have hma:=(hP _ _ h0).ma
 have hmb:=(hP _ _ h0).mb
 have hla:=(hP _ _ h0).ha.hlen
 have hlb:=(hP _ _ h0).hb.hlen
 have bA:=G.YW A
 have bB:=G.YW B
 have lA:=G.j6 hma
 have lB:=G.j6 hmb
 have hY':=zk hY
 have hP':=zk hP
 have hD':=zk hD
 clear hY hP hD
 refine callsIn_of_wp Tryz.func238 rfl trivial ?_ rfl
 simp only[Tryz.ntmps238,List.size_toArray,List.length_cons,List.length_nil,Nat.reduceAdd,Nat.reduceSub,Array.replicate_succ,Array.replicate_zero,List.push_toArray,List.append_toArray,List.nil_append,List.cons_append]
 gi_wp2
 gi_loopw [4,5] (fun i j wr=>∃(p q:Nat) (pre:List Int),p≤(G.bs A).length∧q≤(G.bs B).length∧i= .int .i64 p∧j= .int .i64 q∧Hid (pre++G.mrg ((G.bs A).drop p) ((G.bs B).drop q)=G.mrg (G.bs A) (G.bs B))∧J pre wr∧Hid (wr.heap[W.heap.size]? =some (boxPr a la ca b lb cb))) (fun i j _=>((G.bs A).length-(intOf i).toNat)+((G.bs B).length-(intOf j).toNat))
 case atStart=>
  refine⟨0,0,[],Nat.zero_le _,Nat.zero_le _,rfl,rfl,by show _=_;simp,h0,?_⟩
  exact heap_alloc_new W _
 case round=>
  obtain⟨p,q,pre,hp,hq,rfl,rfl,hrem,hJ,hbox⟩:=hrel
  have cA:∀k,Calls Tryz.prog 257 #[.slice a la ca,.int .i64 p] (wr.drewN k) fun e w'=>e= .returned (.int .i64 (qX A p))∧w'=wr.drewN k:=fun k=>border_any a la ca A p _ ((zq hP' _ _ hJ).ha.drewN k) hma (by omega)
  have cB:∀k,Calls Tryz.prog 257 #[.slice b lb cb,.int .i64 q] (wr.drewN k) fun e w'=>e= .returned (.int .i64 (qX B q))∧w'=wr.drewN k:=fun k=>border_any b lb cb B q _ ((zq hP' _ _ hJ).hb.drewN k) hmb (by omega)
  have hnx:=mrg_next hma hmb p q hp hq
  generalize hx:qX A p=x at*
  generalize hy:qX B q=y at*
  clear hx hy
  have cc:∀(v:Value) (i z:Int) (k:Nat),((v= .slice a la ca∧i=p∧z=x)∨(v= .slice b lb cb∧i=q∧z=y))→Calls Tryz.prog 257 #[v,.int .i64 i] (wr.drewN k) fun e w'=>e= .returned (.int .i64 z)∧w'=wr.drewN k:=by
   rintro v i z k (⟨rfl,rfl,rfl⟩|⟨rfl,rfl,rfl⟩)
   ·exact cA k
   ·exact cB k
  have CC:=zk cc
  clear cA cB cc
  have k1:∀k,(wr.drewN k).cell? ⟨W.heap.size,0,none⟩=some (.slice a la ca):=by
   intro k
   simp[World.cell?,hbox.out]
  have k2:∀k,(wr.drewN k).cell? ⟨W.heap.size,1,none⟩=some (.slice b lb cb):=by
   intro k
   simp[World.cell?,hbox.out]
  gi_wp2
  have hfw:∀f,Fence.wide.fn f:=fun _=>trivial
  gi_quiet ((gi_at_call 257;first|exact CallsIn.quiet_of_same (callsIn_wide.2 (zq CC _ _ x _ (.inl ⟨rfl,rfl,rfl⟩)))|exact CallsIn.quiet_of_same (callsIn_wide.2 (zq CC _ _ y _ (.inr ⟨rfl,rfl,rfl⟩)))))
  have hJ2:=zq hD' _ _ nq hJ
  have hbox2:Hid ((wr.drewN nq).heap[W.heap.size]? =some (boxPr a la ca b lb cb)):=by show _=_;simpa using hbox.out
  clear k1 k2 CC hbox
  rcases hnx with ⟨rfl,rfl,hm⟩|⟨hxy,hp1,hx1,hx0,hy1,hm⟩|⟨hxy,hq1,hy1,hy0,hx1,hm⟩|⟨rfl,hp1,hq1,hx1,hx0,hm⟩
  ·have hm:=zk hm
   have fin:Hid (pre=G.mrg (G.bs A) (G.bs B)):=by
    show _=_
    rw[←hrem.out,hm.out,List.append_nil]
   clear hY' hP' hD'
   gi_wp2
   refine bodyPost_ret (results_none rfl _ _ _) rfl ?_
   refine⟨⟨_,rfl⟩,?_⟩
   rw[←fin.out];exact hJ2
  ·have hm:=zk hm
   obtain⟨fn,tmps,assign,body,hy,hR⟩:=zq hY' pre x _ hJ2 hbox2.out ⟨_,by rw[←hm.out];exact hrem.out⟩
   clear hY' hP' hD'
   have e1:(x==1114113)=false:=by rw[beq_eq_false_iff_ne];omega
   have e2:(y==x)=false:=by rw[beq_eq_false_iff_ne];omega
   gi_wp2
   refine hR.mono ?_
   rintro e W3 ⟨rfl,hJ3,hbox3⟩
   have hbox3':=zk hbox3
   clear hbox3 hR hy
   gi_wp2
   go_roundw
   case rel=>
    refine⟨p+1,q,pre++[x],by omega,by omega,by go_num,rfl,?_,hJ3,hbox3'⟩
    show _=_
    rw[←hrem.out,hm.out];simp
   case measure=>simp[intOf];omega
  ·have hm:=zk hm
   obtain⟨fn,tmps,assign,body,hy,hR⟩:=zq hY' pre y _ hJ2 hbox2.out ⟨_,by rw[←hm.out];exact hrem.out⟩
   clear hY' hP' hD'
   have e1:(y==1114113)=false:=by rw[beq_eq_false_iff_ne];omega
   have e2:(x==y)=false:=by rw[beq_eq_false_iff_ne];omega
   gi_wp2
   refine hR.mono ?_
   rintro e W3 ⟨rfl,hJ3,hbox3⟩
   have hbox3':=zk hbox3
   clear hbox3 hR hy
   gi_wp2
   go_roundw
   case rel=>
    refine⟨p,q+1,pre++[y],by omega,by omega,rfl,by go_num,?_,hJ3,hbox3'⟩
    show _=_
    rw[←hrem.out,hm.out];simp
   case measure=>simp[intOf];omega
  ·have hm:=zk hm
   obtain⟨fn,tmps,assign,body,hy,hR⟩:=zq hY' pre x _ hJ2 hbox2.out ⟨_,by rw[←hm.out];exact hrem.out⟩
   clear hY' hP' hD'
   have e1:(x==1114113)=false:=by rw[beq_eq_false_iff_ne];omega
   gi_wp2
   refine hR.mono ?_
   rintro e W3 ⟨rfl,hJ3,hbox3⟩
   have hbox3':=zk hbox3
   clear hbox3 hR hy
   gi_wp2
   go_roundw
   case rel=>
    refine⟨p+1,q+1,pre++[x],by omega,by omega,by go_num,by go_num,?_,hJ3,hbox3'⟩
    show _=_
    rw[←hrem.out,hm.out];simp
   case measure=>simp[intOf];omega
end Go.Proofs.YtcblkmlcbedomaaGreatDoor
namespace Go.Proofs.YtcblkmlcbedomaaGreatDoor
open Go.RowKit Go.Shelf
abbrev onlyEnd (R:World→Prop):Exit→Act→World→Prop:=Exit.then (fun _ W=>R W) (fun _ _ _=>False)
theorem rangeBound {n:Nat} {P:Program} {g:Operand} {t:Tmp} {assign body:Code} {Q:Exit→Act→World→Prop} {a:Act} {w:World}
  (h1:1≤n) {gf:Nat} {rb:Array Value} (hg:a.eval g= .func (.func gf) rb #[]) (eg:∀args w,(callFunc gf args).run P w= .ok (.enter gf args) w)
  (xs:List Int) (ob:Obj) (I:List Int→World→Prop)
  (hIput:∀pre W l o o',I pre W→w.heap.size≤l→W.heap[l]? =some o→o.isCells=false→I pre (W.putObj l o'))
  (hIalloc:∀pre W o,I pre W→I pre (W.alloc o)) (hIdraw:∀pre W k,I pre W→I pre (W.drewN k)) (h0:I [] w) (a₁:Int→Act)
  (hassign:∀(l:Nat) (x:Int) (W:World) (K:Act→World→Prop),K (a₁ x) W→
   assign.wpIn (Fence.wide.inRound l) (n-1-1) P (Exit.then K (fun _ _ _=>False)) {tmps:=a.tmps.setIfInBounds t (.int .i64 x),defers:=[]} W)
  (hbody:∀(l:Nat) (pre:List Int) (x:Int) (W:World),I pre W→W.heap[w.heap.size+2]? =some ob→(∃rest,pre++x::rest=xs)→
   body.wpIn (Fence.wide.inRound l) (n-1-1) P (onlyEnd fun W'=>KeepsFrom w.heap.size W W'∧I (pre++[x]) W'∧W'.heap[w.heap.size+2]? =some ob) (a₁ x) W)
  (hiter:∀(lr:Nat) (W:World) (J:List Int→World→Prop),W.heap.size=w.heap.size+2→(∀pre W1,J pre W1→I pre W1)→(∀pre W1 k,J pre W1→J pre (W1.drewN k))→
   (∀pre x W1,J pre W1→W1.heap[w.heap.size+2]? =some ob→(∃rest,pre++x::rest=xs)→YieldAt Fence.wide (n-1-1) P lr #[.int .i64 x] W1 fun e W'=>e= .returned (.bool true)∧J (pre++[x]) W'∧W'.heap[w.heap.size+2]? =some ob)→
   J [] (W.alloc ob)→CallsIn Fence.wide (n-1) P gf (rb++ #[.func (.yield lr) #[] #[]]) W fun e W'=>(∃v,e= .returned v)∧J xs W')
  (hdone:∀W:World,I xs W→W.heap[w.heap.size]? =some (.deferred (some []))→Q .normal {a with defers:={target:= .collected w.heap.size,args:= #[]}::a.defers} W):
  (Code.rangeFunc g #[t] assign body).wpIn Fence.wide n P Q a w:=by
 refine wpIn_rangeFunc fun fn hfn=> ?_
 obtain⟨rc,hrc⟩:∃rc:LoopState→Loop,rc=fun st=>{state:=st,pending:=none,fn:=fn,tmps:=a.tmps,params:= #[t],assign:=assign,body:=body,defers:=w.heap.size}:=⟨_,rfl⟩
 obtain⟨W1,hW1⟩:∃W1,(w.alloc (.deferred (some []))).alloc (.loop (rc .ready))=W1:=⟨_,rfl⟩
 have s1:W1.heap.size=w.heap.size+2:=by rw[←hW1];simp
 have d1:W1.heap[w.heap.size]? =some (.deferred (some [])):=by
  rw[←hW1];exact(Below.heap_alloc _ _ _ (by simp)).trans (World.alloc_heap_new w _)
 have r1:W1.heap[w.heap.size+1]? =some (.loop (rc .ready)):=by
  rw[←hW1];have:=World.alloc_heap_new (w.alloc (.deferred (some []))) (.loop (rc .ready));rwa [World.size_alloc]at this
 have i1:I [] W1:=by rw[←hW1];exact hIalloc _ _ _ (hIalloc _ _ _ h0)
 refine⟨w.heap.size+1,[{target:= .collected w.heap.size,args:= #[]}],W1,{target:= .fn (.func gf) #[],args:=rb++ #[.func (.yield (w.heap.size+1)) #[] #[]]},W1,gf,
  rb++ #[.func (.yield (w.heap.size+1)) #[] #[]],W1,?_,?_,fun _ _=>trivial,?_,fun _=>h1,?_⟩
 ·rw[←hW1,hrc];exact run_enterLoop_outer _ _ _ _ _
 ·simp only[resolve,hg]
  simp[go_sem]
 ·simp[invoke,go_sem,eg]
 ·refine(hiter (w.heap.size+1) W1 (fun pre W=>I pre W∧W.heap[w.heap.size+1]? =some (.loop (rc .ready))∧W.heap[w.heap.size]? =some (.deferred (some [])))
   s1 (fun _ _ h=>h.1) (fun pre W k h=>⟨hIdraw _ _ _ h.1,by simpa using h.2.1,by simpa using h.2.2⟩) ?_
   ⟨hIalloc _ _ _ i1,(Below.heap_alloc _ _ _ (by omega)).trans r1,(Below.heap_alloc _ _ _ (by omega)).trans d1⟩).mono ?_
  ·rintro pre x W ⟨hi,hl,hd⟩ hob hx
   have hlt:w.heap.size+1<W.heap.size:=(Array.getElem?_eq_some_iff.1 hl).1
   have hy:(Instr.yield (w.heap.size+1) #[.int .i64 x]).run P W= .ok (.round (w.heap.size+1) fn (a.tmps.setIfInBounds t (.int .i64 x)) assign body) W:=by
    have:=run_yield (P:=P) (args:= #[.int .i64 x]) hl (by rw[hrc];rfl)
    rw[hrc]at this
    simpa using this
   refine⟨fn,_,assign,body,hy,roundIn_of_wpIn hfn ?_⟩
   refine hassign _ x W _ ?_
   refine⟨_,run_beginRound hl (by rw[hrc]),?_⟩
   obtain⟨Wb,hWb⟩:∃Wb,W.putObj (w.heap.size+1) (.loop {rc .ready with state:= .busy})=Wb:=⟨_,rfl⟩
   rw[hWb]
   have lb:Wb.heap[w.heap.size+1]? =some (.loop {rc .ready with state:= .busy}):=by rw[←hWb];exact World.putObj_heap_same hlt
   have db:Wb.heap[w.heap.size]? =some (.deferred (some [])):=by rw[←hWb];exact(World.putObj_heap_other (by omega)).trans hd
   have ib:I pre Wb:=by rw[←hWb];exact hIput _ _ _ _ _ hi (by omega) hl rfl
   have bb:Wb.heap[w.heap.size+2]? =some ob:=by rw[←hWb];exact(World.putObj_heap_other (by omega)).trans hob
   refine wpIn_mono (hbody _ pre x Wb ib bb hx) ?_
   rintro e a3 W3 hp
   cases e with
   |normal=>
    obtain⟨hk,hi3,hb3⟩:=hp
    have l3:=hk.same _ _ (by omega) lb rfl
    have d3:=hk.same _ _ (Nat.le_refl _) db rfl
    have er:=run_endRound (P:=P) none l3
    refine⟨_,_,er,rfl,⟨hIput _ _ _ _ _ hi3 (by omega) l3 rfl,?_,(World.putObj_heap_other (by omega)).trans d3⟩,(World.putObj_heap_other (by omega)).trans hb3⟩
    rw[World.putObj_heap_same (Array.getElem?_eq_some_iff.1 l3).1,hrc]
    rfl
   |_=>exact hp.elim
  ·rintro e W2 ⟨⟨v,rfl⟩,hi,hl,hd⟩
   refine⟨none,_,?_,hdone _ (hIput _ _ _ _ (.loop {rc .ready with state:= .exhausted}) hi (by omega) hl rfl) ((World.putObj_heap_other (by omega)).trans hd)⟩
   have:=run_endLoop (P:=P) hl (by rw[hrc];simp)
   rw[hrc]at this⊢
   exact this
end Go.Proofs.YtcblkmlcbedomaaGreatDoor

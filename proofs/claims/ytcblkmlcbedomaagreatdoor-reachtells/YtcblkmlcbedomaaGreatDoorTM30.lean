/- Parts of the proof that stand ahead of it (T 30). -/
import Derived.Test.YtcblkmlcbedomaaGreatDoorTM29
set_option linter.unusedVariables false
set_option linter.unusedSimpArgs false
set_option maxRecDepth 20000
set_option maxHeartbeats 16000000
namespace Go.Proofs.YtcblkmlcbedomaaGreatDoor.F
open Go.RowKit Go.Proofs.YtcblkmlcbedomaaGreatDoor.T Go.Proofs.YtcblkmlcbedomaaGreatDoor.R
structure RsV (B n:Nat) (w:World) (a:Option Addr) (len cap:Nat) (L:List RU):Prop where
 hlen:L.length=len
 hsmall:len≤1000000
 hcap:len≤cap∧cap≤maxLen
 hcs:∃cs,Row5 (fun g=>g<B) w a len cap cs∧RuC (RuleN n B w) L cs
theorem RsV.kept {B n:Nat} {w X:World} {a:Option Addr} {len cap:Nat} {L:List RU} (h:RsV B n w a len cap L) (k:∀g,g<B→X.heap[g]? =w.heap[g]?) (kr:KR w X):RsV B n X a len cap L:=by
 obtain⟨h1,h2,h3,cs,h4,h5⟩:=h
 exact⟨h1,h2,h3,cs,h4.kept (fun g hg=>⟨hg,k g hg⟩),RuC.mono (fun u p hp=>hp.kept (fun g hg=>⟨hg,k g hg⟩) kr) _ _ h5⟩
def Fb (B:Nat) (w X:World):Prop:=Below B w X∧KR w X∧w.heap.size≤X.heap.size
theorem Fb.refl (B:Nat) (w:World):Fb B w w:=⟨Below.refl _ _,KR.refl _,Nat.le_refl _⟩
theorem Fb.then {B:Nat} {w X Y:World} (h:Fb B w X) (k:Fb B X Y):Fb B w Y:=⟨h.1.trans k.1,h.2.1.then k.2.1,Nat.le_trans h.2.2 k.2.2⟩
theorem Fb.of {B:Nat} {w X:World} (hB:B≤w.heap.size) (h:Below w.heap.size w X):Fb B w X:=⟨h.mono hB,KR.of h,h.size⟩
theorem Fb.rules {B n:Nat} {w X:World} (f:Fb B w X) {a:Option Addr} {len cap:Nat} {L:List RU} (h:RsV B n w a len cap L):RsV B n X a len cap L:=h.kept (fun g hg=>f.1.block g hg) f.2.1
theorem Fb.fl {B b:Nat} {w X:World} (h:Fl B b none w X) (hB:B≤w.heap.size) {cs:Array Value} {fr:Nat×Nat} (hb:w.heap[b]? =some (.cells cs 111 fr)):Fb B w X:=⟨h.below hB,h.kr hb (Zv _),h.size⟩
theorem Z4 {W:World} {g:Nat} {x0 x1 x2 x3 x4 x5 x6 x7 x8:Value} {t:TypeId} (h:W.heap[g]? =some (.cells #[x0,x1,x2,x3,x4,x5,x6,x7,x8] t)):W.cell? ⟨g,1,none⟩=some x1∧W.cell? ⟨g,7,none⟩=some x7:=by
 refine⟨?_,?_⟩<;>simp[World.cell?,h]
theorem idx_mem (x:List Int):∀(ns:List (List Int)) (i:Nat),idx x ns i=none↔x∉ns:=by
 intro ns
 induction ns with
 |nil=>intro i;simp[idx]
 |cons y ns ih=>
  intro i
  unfold idx
  by_cases h:x=y
  ·rw[if_pos h];simp[h]
  ·rw[if_neg h,ih (i+1)];simp[h]
theorem twice_yes {u:RU} {l:List RU} {ns:List (List Int)} (h:u.1∈ns):Z8 (u::l) ns=some u.2.2.2.2:=by unfold Z8;rw[if_pos h]
theorem twice_no {u:RU} {l:List RU} {ns:List (List Int)} (h:u.1∉ns):Z8 (u::l) ns=Z8 l (ns++[u.1]):=by
 conv=>lhs;unfold Z8
 rw[if_neg h]
theorem rules_one {B n:Nat} {w:World} {a:Option Addr} {len cap:Nat} {L:List RU} (h:RsV B n w a len cap L) (j:Nat) (hj:j<len):
  ∃g off k S a1 n1 c1 a2 n2 c2 aN cN u,a=some ⟨g,off,none⟩∧g<w.heap.size∧w.cell? ⟨g,off+9*j,none⟩=some (.string (strOfNums u.1))∧w.cell? ⟨g,off+9*j+1,none⟩=some (.int .i64 u.2.1)∧w.cell? ⟨g,off+9*j+2,none⟩=some (.int .i64 k)∧w.cell? ⟨g,off+9*j+3,none⟩=some (.string S)∧w.cell? ⟨g,off+9*j+4,none⟩=some (.slice a1 n1 c1)∧w.cell? ⟨g,off+9*j+5,none⟩=some (.slice a2 n2 c2)∧w.cell? ⟨g,off+9*j+6,none⟩=some (.int .i64 (atP u.2.2.1))∧w.cell? ⟨g,off+9*j+7,none⟩=some (.slice aN u.2.2.2.1.length cN)∧w.cell? ⟨g,off+9*j+8,none⟩=some (.int .i64 u.2.2.2.2)∧
   PartB B n w (.agg #[.int .i64 k,.string S,.slice a1 n1 c1,.slice a2 n2 c2,.int .i64 (atP u.2.2.1)]) u.2.2.1∧U.zv u.1∧Rs w aN u.2.2.2.1.length cN u.2.2.2.1∧Lo B aN u.2.2.2.1.length∧L.drop j=u::L.drop (j+1)∧u∈L:=by
 obtain⟨h1,-,-,cs,h4,h5⟩:=h
 exact rules_at h4 h5 j (by omega)
theorem MakV.name {D:Nat→Prop} {w X:World} {B b m:Nat} {ns:List (List Int)} {d:Int} {v:Value} {s:Mk} (h:MakV D w B b m ns d v s) {x:List Int} (hn:Nm X m (ns++[x])) (hs:X.heap.size=w.heap.size) (ho:∀k,k≠m→X.heap[k]? =w.heap[k]?) (e1:X.os=w.os) (e2:X.tape=w.tape) (e3:X.output=w.output):MakV D X B b m (ns++[x]) d v s∧Fb B w X:=by
 obtain⟨h1,h2,h3,h4,h5,⟨h6,cs,own,hp⟩,h7⟩:=h
 have cl:∀(g:Nat) (c:Array Value) (t:TypeId) (fr:Nat×Nat),w.heap[g]? =some (.cells c t fr)→X.heap[g]? =some (.cells c t fr):=fun g c t fr hg=>by
  rw[ho g (fun e=> ?_)];exact hg
  subst e
  obtain⟨es,ck,hm,-⟩:=h7
  rw[hg]at hm;cases hm
 have kr:KR w X:=fun g c fr hg=>cl g c _ fr hg
 refine⟨⟨h1,h2,h3,h4,cl _ _ _ _ h5,⟨h6,cs,?_,PrC.kp ⟨kr,fun g cur fr t _ hd hg=>⟨hd,cl _ _ _ _ hg⟩⟩ _ _ hp⟩,hn⟩,⟨⟨e1,e2,e3,by omega,fun k hk=>ho k (by omega)⟩,kr,by omega⟩⟩
 refine YZ own (fun g o hg hgo=> ?_)
 obtain⟨c,hc⟩:=ju own g hg
 rw[hc]at hgo;injection hgo with hgo;subst hgo
 exact cl _ _ _ _ hc
theorem fbegin_l {n:Nat} {D:Nat→Prop} {w:World} {B b m:Nat} {v:Value} (a:Option Addr) (len cap:Nat) (L:List RU) (hB:B≤w.heap.size) (hm:MakV D w B b m [] 0 v ⟨[],2147483647,0,0⟩) (hr:RsV B n w a len cap L) (hN:∀u∈L,u.2.2.2.1.length≤1000000):
  Calls Tryz.prog 111 #[.pointer (some ⟨b,0,none⟩),.slice a len cap] w fun e w'=>e= .returned (.tuple #[])∧(∃v' ns',MakV D w' B b m ns' 0 v' (begM L)∧((begM L).why=0→ns'=L.map (·.1)))∧Fb B w w':=by
 obtain⟨hc1,hc2⟩:=hr.hcap
 unfold maxLen at hc2
 have hsm:=hr.hsmall
 have HLL:=zk hr.hlen
 have HN:=zk hN
 have HM0:=zk hm
 have HR0:=zk hr
 have HBB:=zk hB
 have hlt:=hm.lt
 clear hm hr hN
 go_enter Tryz.func111,Tryz.ntmps111
 go_wp2_with fail
 go_loopw [12] (fun i wr=>∃(j:Nat),j≤len∧i= .int .i64 (j:Int)∧Hid (Z8 L []=Z8 (L.drop j) ((L.take j).map (·.1)))∧Hid (MakV D wr B b m ((L.take j).map (·.1)) 0 v ⟨[],2147483647,0,0⟩)∧Hid (Fb B w wr)∧w.heap.size≤wr.heap.size) (fun i _=>len-(intOf i).toNat)
 case atStart=>exact⟨0,Nat.zero_le _,rfl,rfl,HM0,Fb.refl _ _,Nat.le_refl _⟩
 case round=>
  obtain⟨j,hj,rfl,hT,hM,hF,hsw⟩:=hrel
  by_cases hlt2:j<len
  ·obtain⟨g,off,k1,S1,a1,n1,c1,a2,n2,c2,aN,cN,u,rfl,hg,q0,q1,q2,q3,q4,q5,q6,q7,q8,pv1,hx,hrs,hty,hd,hu⟩:=rules_one ((zq hF).rules (zq HR0)) j hlt2
   have HD1:=zk hd
   have n9:j*9=9*j:=by omega
   have hb1:=(zq hM).lt
   have LK:∀o k,(Instr.lookup 106 (.map (some m)) (.string (strOfNums u.1)) true).run Tryz.prog ((wr.alloc o).drewN k)= .ok (.tuple #[.int .i64 (((idx u.1 ((L.take j).map (·.1)) 0).getD 0:Nat):Int),.bool (idx u.1 ((L.take j).map (·.1)) 0).isSome]) ((wr.alloc o).drewN k):=fun o k=>Nm.get (((zq hM).later (zY (Below.new1 o) (zX (k:=k)))).names) hx
   have C1:∀o,(wr.alloc o).cell? ⟨b,1,none⟩=some (.map (some m)):=fun o=>(yV ((zq hM).later (Below.new1 o)).cells).2.1
   have HU:=zk (show u∈L∧U.zv u.1 from⟨hu,hx⟩)
   clear pv1 hrs hty hd hu hx
   cases hi:idx u.1 ((L.take j).map (·.1)) 0 with
   |some i=>
    have FIN:Hid (begM L=⟨[],2147483647,u.2.2.2.2,6⟩):=by
     show _=_
     have e:Z8 L []=some u.2.2.2.2:=by
      rw[zq hT,zq HD1]
      refine twice_yes ?_
      by_cases c:u.1∈(L.take j).map (·.1)
      ·exact c
      ·rw[(idx_mem _ _ 0).2 c]at hi;cases hi
     unfold begM;rw[e]
    rw[hi]at LK
    simp only[Option.getD_some,Option.isSome_some]at LK
    have CS:=zk (fun W (bW:Below wr.heap.size wr W)=>Yx ((zq hM).later bW) u.2.2.2.2 6)
    generalize strOfNums u.1=S0 at*
    generalize u.2.1=mk1 at*
    generalize atP u.2.2.1=q at*
    generalize u.2.2.2.2=qr at*
    generalize u.2.2.2.1.length=nN at*
    go_wp2_with fail
    go_quiet (fail)
    go_wp2_with fail
    refine(zq CS _ (zY (Below.new1 _) zX)).mono ?_
    rintro e w2 ⟨rfl,hm2,f2⟩
    have hBr:B≤wr.heap.size:=Nat.le_trans (zq HBB) hsw
    have F2:Fb B w w2:=(zq hF).then ((Fb.of hBr (Below.new1 (.cells #[.string S0,.int .i64 mk1,.int .i64 k1,.string S1,.slice a1 n1 c1,.slice a2 n2 c2,.int .i64 q,.slice aN nN cN,.int .i64 qr] 151))).then ((Fb.of (w:=wr.alloc (.cells #[.string S0,.int .i64 mk1,.int .i64 k1,.string S1,.slice a1 n1 c1,.slice a2 n2 c2,.int .i64 q,.slice aN nN cN,.int .i64 qr] 151)) (by simp;omega) (zX (k:=_))).then (Fb.fl f2 (Nat.le_trans hBr (by simp)) (((zq hM).later (zY (Below.new1 (.cells #[.string S0,.int .i64 mk1,.int .i64 k1,.string S1,.slice a1 n1 c1,.slice a2 n2 c2,.int .i64 q,.slice aN nN cN,.int .i64 qr] 151)) zX)).cells))))
    have HF2:=zk F2
    have HM2:=zk hm2
    clear CS hm2 f2 F2
    go_wp2_with fail
    (try simp only[Exit.inBlock,Exit.then])
    refine bodyPost_ret (results_none rfl _ _ _) rfl ?_
    exact⟨rfl,⟨_,_,by rw[zq FIN];exact zq HM2,fun c=>by rw[zq FIN]at c;cases c⟩,zq HF2⟩
   |none=>
    have NXT:Hid (Z8 L []=Z8 (L.drop (j+1)) ((L.take (j+1)).map (·.1))∧(L.take (j+1)).map (·.1)=(L.take j).map (·.1)++[u.1]):=by
     have hlj:j<L.length:=by rw[zq HLL];exact hlt2
     have e:(L.take (j+1)).map (·.1)=(L.take j).map (·.1)++[u.1]:=by
      have hg:L[j]=u:=by have:=zq HD1;rw[List.drop_eq_getElem_cons hlj]at this;injection this
      rw[←List.take_concat_get hlj,hg];simp
     refine⟨?_,e⟩
     rw[zq hT,zq HD1,e]
     exact twice_no ((idx_mem _ _ 0).1 hi)
    have hlN:((L.take j).map (·.1)).length=j:=by rw[List.length_map,List.length_take];have:=zq HLL;omega
    have PUT:=zk (fun(W:World) (bW:Below wr.heap.size wr W)=>Nm.put (((zq hM).later bW).names) (zq HU).2 hi)
    rw[hlN]at PUT
    have HX:=zk hi
    rw[hi]at LK
    simp only[Option.getD_none,Option.isSome_none]at LK
    clear hlN hi
    generalize hx1:u.1=x1 at*
    generalize strOfNums x1=S0 at*
    generalize u.2.1=mk1 at*
    generalize atP u.2.2.1=q at*
    generalize u.2.2.2.2=qr at*
    generalize u.2.2.2.1.length=nN at*
    go_wp2_with fail
    go_quiet (fail)
    go_wp2_with fail
    have BW:Below wr.heap.size wr ((wr.alloc (.cells #[.string S0,.int .i64 mk1,.int .i64 k1,.string S1,.slice a1 n1 c1,.slice a2 n2 c2,.int .i64 q,.slice aN nN cN,.int .i64 qr] 151)).drewN nq):=zY (Below.new1 _) zX
    have P1:((wr.alloc (.cells #[.string S0,.int .i64 mk1,.int .i64 k1,.string S1,.slice a1 n1 c1,.slice a2 n2 c2,.int .i64 q,.slice aN nN cN,.int .i64 qr] 151)).drewN nq).cell? ⟨b,1,none⟩=some (.map (some m)):=C1 _
    have P2:((wr.alloc (.cells #[.string S0,.int .i64 mk1,.int .i64 k1,.string S1,.slice a1 n1 c1,.slice a2 n2 c2,.int .i64 q,.slice aN nN cN,.int .i64 qr] 151)).drewN nq).cell? ⟨wr.heap.size,0,none⟩=some (.string S0):=by have:=heap_alloc_new wr (.cells #[.string S0,.int .i64 mk1,.int .i64 k1,.string S1,.slice a1 n1 c1,.slice a2 n2 c2,.int .i64 q,.slice aN nN cN,.int .i64 qr] 151);show(wr.alloc (.cells #[.string S0,.int .i64 mk1,.int .i64 k1,.string S1,.slice a1 n1 c1,.slice a2 n2 c2,.int .i64 q,.slice aN nN cN,.int .i64 qr] 151)).cell? _=_;unfold World.cell?;simp only[this];rfl
    generalize (wr.alloc (.cells #[.string S0,.int .i64 mk1,.int .i64 k1,.string S1,.slice a1 n1 c1,.slice a2 n2 c2,.int .i64 q,.slice aN nN cN,.int .i64 qr] 151)).drewN nq=WW at*
    obtain⟨w4,MU,nm4,s4,o4,e41,e42,e43⟩:=zq PUT WW.drew (zY BW (zX (k:=1)))
    obtain⟨m4,f4⟩:=((zq hM).later (zY BW (zX (k:=1)))).name nm4 s4 o4 e41 e42 e43
    have hsW:WW.drew.heap.size=WW.heap.size:=rfl
    have sBW:=BW.size
    have hbm:b≠m:=by
     intro e
     obtain⟨es,ck,hmm,-⟩:=(zq hM).names
     rw[←e,(zq hM).cells]at hmm;cases hmm
    have hgm:wr.heap.size≠m:=by
     have:=(zq hM).names.lt;omega
    have P1b:w4.cell? ⟨b,1,none⟩=some (.map (some m)):=(yV m4.cells).2.1
    have P2b:w4.cell? ⟨wr.heap.size,0,none⟩=some (.string S0):=(World.cell?_of_block (o4 _ hgm)).trans P2
    have HM4:=zk m4
    have HF4:=zk ((zq hF).then ((Fb.of (Nat.le_trans (zq HBB) hsw) (zY BW (zX (k:=1)))).then f4))
    have s5:=(zq HF4).2.2
    clear m4 f4 nm4 s4 o4 e41 e42 e43 LK C1 q0 q1 q2 q3 q4 q5 q6 q7 q8 PUT
    refine wp_region_held_drew (S:=(fun w'=>w'.cell? ⟨b,1,none⟩=some (.map (some m))∧w'.cell? ⟨wr.heap.size,0,none⟩=some (.string S0))) (by kernel_rfl) (⟨P1,P2⟩) (fun hHeld=> ?_)
    refine tkh 0 ?_ rfl (by kernel_rfl) (fun _ _ _ h=>h) ?_ (by assumption) ?_
    rotate_left
    ·intro w hSw;obtain⟨y0,y1⟩:=hSw;(try clear hSw);go_simp;(try with_reducible rfl)
    try simp only[pls]
    refine tkh 1 ?_ rfl (by kernel_rfl) (fun _ _ _ h=>h) ?_ (by assumption) ?_
    rotate_left
    ·intro w hSw;obtain⟨y0,y1⟩:=hSw;(try clear hSw);go_simp;(try with_reducible rfl)
    try simp only[pls]
    refine tkh 2 ?_ rfl (by kernel_rfl) (fun _ _ _ h=>h) ?_ (by assumption) ?_
    rotate_left
    ·intro w hSw;obtain⟨y0,y1⟩:=hSw;(try clear hSw);go_simp;(try with_reducible rfl)
    try simp only[pls]
    refine tkh 3 ?_ rfl (by kernel_rfl) (fun _ _ _ h=>h) ?_ (by assumption) ?_
    rotate_left
    ·intro w hSw;obtain⟨y0,y1⟩:=hSw;(try clear hSw);go_simp;(try with_reducible rfl)
    try simp only[pls]
    refine tkh 4 ?_ rfl (by kernel_rfl) (fun _ _ _ h=>h) ?_ (by assumption) ?_
    rotate_left
    ·intro w hSw;obtain⟨y0,y1⟩:=hSw;(try clear hSw);go_simp;(try with_reducible rfl)
    try simp only[pls]
    refine tkh 5 ?_ rfl (by kernel_rfl) (fun _ _ _ h=>h) ?_ (by assumption) ?_
    rotate_left
    ·intro w hSw;obtain⟨y0,y1⟩:=hSw;(try clear hSw);go_simp;(try with_reducible rfl)
    try simp only[pls]
    refine tkh 6 ?_ rfl (by kernel_rfl) (fun _ _ _ h=>h) ?_ (by assumption) ?_
    rotate_left
    ·intro w hSw;obtain⟨y0,y1⟩:=hSw;(try clear hSw);go_simp;(try with_reducible rfl)
    try simp only[pls]
    refine wpAnyH_ready (rs:=[7]) (by kernel_rfl) (by simp) ?_
    refine AllReadyH.cons rfl (fun K hK=> ?_) AllReadyH.nil
    go_simp
    refine hK.out _ _ (⟨P1b,P2b⟩) (fun hHeld=> ?_)
    clear hK K
    try simp only[pls]
    refine wpAnyH_done (by kernel_rfl) ?_ _
    clear P1 P2 P1b P2b hHeld MU
    go_wp2_with fail
    go_roundw
    case rel=>exact⟨j+1,by omega,by simp,(zq NXT).1,by show MakV _ _ _ _ _ _ _ _ _;rw[(zq NXT).2];exact zq HM4,HF4,s5⟩
    case measure=>simp[intOf];omega
  ·obtain rfl:j=len:=by omega
   have TW:Hid (Z8 L []=none):=by
    show _=_
    rw[zq hT,List.drop_eq_nil_of_le (by rw[zq HLL];exact Nat.le_refl _)]
    rfl
   by_cases hz:j=0
   ·have FIN:Hid (begM L=⟨[],2147483647,0,7⟩):=by
     show _=_
     unfold begM;rw[zq TW];simp only
     rw[if_pos (by rw[zq HLL];exact .inl hz)]
    have b0:((j:Int)==0)=true:=by rw[hz];rfl
    clear hz hT TW
    have CS:=zk (fun W (bW:Below wr.heap.size wr W)=>Yx ((zq hM).later bW) 0 7)
    go_wp2_with fail
    refine(zq CS _ (Below.refl _ _)).mono ?_
    rintro e w2 ⟨rfl,hm2,f2⟩
    have HF2:=zk ((zq hF).then (Fb.fl f2 (Nat.le_trans (zq HBB) hsw) (zq hM).cells))
    have HM2:=zk hm2
    clear CS hm2 f2
    go_wp2_with fail
    (try simp only[Exit.inBlock,Exit.then])
    refine bodyPost_ret (results_none rfl _ _ _) rfl ?_
    exact⟨rfl,⟨_,_,by rw[zq FIN];exact zq HM2,fun c=>by rw[zq FIN]at c;cases c⟩,zq HF2⟩
   ·by_cases h60:60<j
    ·have FIN:Hid (begM L=⟨[],2147483647,0,7⟩):=by
      show _=_
      unfold begM;rw[zq TW];simp only
      rw[if_pos (by rw[zq HLL];exact .inr h60)]
     have b0:((j:Int)==0)=false:=beq_eq_false_iff_ne.2 (by omega)
     have b60:decide ((60:Int)<(j:Int))=true:=decide_eq_true (by omega)
     clear hz h60 hT TW
     have CS:=zk (fun W (bW:Below wr.heap.size wr W)=>Yx ((zq hM).later bW) 0 7)
     go_wp2_with fail
     refine(zq CS _ (Below.refl _ _)).mono ?_
     rintro e w2 ⟨rfl,hm2,f2⟩
     have HF2:=zk ((zq hF).then (Fb.fl f2 (Nat.le_trans (zq HBB) hsw) (zq hM).cells))
     have HM2:=zk hm2
     clear CS hm2 f2
     go_wp2_with fail
     (try simp only[Exit.inBlock,Exit.then])
     refine bodyPost_ret (results_none rfl _ _ _) rfl ?_
     exact⟨rfl,⟨_,_,by rw[zq FIN];exact zq HM2,fun c=>by rw[zq FIN]at c;cases c⟩,zq HF2⟩
    ·have b0:((j:Int)==0)=false:=beq_eq_false_iff_ne.2 (by omega)
     have b60:decide ((60:Int)<(j:Int))=false:=decide_eq_false (by omega)
     have FIN:Hid (begM L=⟨L.map (fun r=>(([]:List (List SY)),r.2.1,r.2.2.2.1)),2147483647,0,0⟩):=by
      show _=_
      unfold begM;rw[zq TW];simp only
      rw[if_neg (by rw[zq HLL];omega)]
     have NMS:Hid ((L.take j).map (·.1)=L.map (·.1)):=by show _=_;rw[List.take_of_length_le (by rw[zq HLL];exact Nat.le_refl _)]
     have HM1:Hid (MakV D wr B b m (L.map (·.1)) 0 v ⟨[],2147483647,0,0⟩):=by have:=zq hM;rw[zq NMS]at this;exact this
     clear hM hT TW
     have hz0:0<j:=by omega
     have h60b:j≤60:=by omega
     clear hz h60
     generalize hWr:wr=W0 at*
     clear hWr
     go_wp2_with fail
     go_loopw [52] (fun i wr=>∃(i2:Nat) (v':Value),i2≤j∧i= .int .i64 (i2:Int)∧Hid (MakV D wr B b m (L.map (·.1)) 0 v' ⟨(L.take i2).map (fun r=>(([]:List (List SY)),r.2.1,r.2.2.2.1)),2147483647,0,0⟩)∧Hid (Fb B w wr)∧w.heap.size≤wr.heap.size) (fun i _=>j-(intOf i).toNat)
     case atStart=>exact⟨0,v,Nat.zero_le _,rfl,HM1,hF,hsw⟩
     case round=>
      obtain⟨i2,v',hj2,rfl,hM2,hF2,hsw2⟩:=hrel
      by_cases hlt2:i2<j
      ·obtain⟨g,off,k1,S1,a1,n1,c1,a2,n2,c2,aN,cN,u,rfl,hg,q0,q1,q2,q3,q4,q5,q6,q7,q8,pv1,hx,hrs,hty,hd,hu⟩:=rules_one ((zq hF2).rules (zq HR0)) i2 hlt2
       have HD1:=zk hd
       have n9:i2*9=9*i2:=by omega
       have hb1:=(zq hM2).lt
       have NXT:Hid ((L.take (i2+1)).map (fun r=>(([]:List (List SY)),r.2.1,r.2.2.2.1))=(L.take i2).map (fun r=>(([]:List (List SY)),r.2.1,r.2.2.2.1))++[([],u.2.1,u.2.2.2.1)]):=by
        have hlj:i2<L.length:=by rw[zq HLL];exact hlt2
        have hgg:L[i2]=u:=by have:=zq HD1;rw[List.drop_eq_getElem_cons hlj]at this;injection this
        show _=_
        rw[←List.take_concat_get hlj,hgg];simp
       have CC:=zk (fun W (bW:Below wr.heap.size wr W)=>cloneR_l aN cN u.2.2.2.1 W (hrs.later bW (Nat.le_refl _)) (zq HN u hu))
       generalize hMD:(L.take i2).map (fun r=>(([]:List (List SY)),r.2.1,r.2.2.2.1))=MD at*
       have HMD:=zk hMD
       clear hMD
       obtain⟨va,vc,rfl⟩:=(zq hM2).made.form
       have hml60:MD.length≤60:=(zq hM2).made.1
       have hml59:Hid (MD.length<60):=by show _<_;rw[←zq HMD,List.length_map,List.length_take,zq HLL];omega
       clear pv1 hrs hty hd hu hx
       generalize strOfNums u.1=S0 at*
       generalize u.2.1=mk1 at*
       generalize atP u.2.2.1=q at*
       generalize u.2.2.2.2=qr at*
       generalize u.2.2.2.1=NN at*
       generalize hnN:NN.length=nN at*
       have HNN:=zk hnN
       clear hnN
       go_wp2_with fail
       have BW:Below wr.heap.size wr (wr.alloc (.cells #[.string S0,.int .i64 mk1,.int .i64 k1,.string S1,.slice a1 n1 c1,.slice a2 n2 c2,.int .i64 q,.slice aN nN cN,.int .i64 qr] 151)):=Below.new1 _
       have P0:(wr.alloc (.cells #[.string S0,.int .i64 mk1,.int .i64 k1,.string S1,.slice a1 n1 c1,.slice a2 n2 c2,.int .i64 q,.slice aN nN cN,.int .i64 qr] 151)).heap[wr.heap.size]? =some (.cells #[.string S0,.int .i64 mk1,.int .i64 k1,.string S1,.slice a1 n1 c1,.slice a2 n2 c2,.int .i64 q,.slice aN nN cN,.int .i64 qr] 151):=heap_alloc_new wr _
       generalize wr.alloc (.cells #[.string S0,.int .i64 mk1,.int .i64 k1,.string S1,.slice a1 n1 c1,.slice a2 n2 c2,.int .i64 q,.slice aN nN cN,.int .i64 qr] 151)=WW at*
       have BD:Below wr.heap.size wr WW.drew:=zY BW (zX (k:=1))
       have c0:WW.drew.cell? ⟨b,0,none⟩=some (.slice va MD.length vc):=(yV ((zq hM2).later BD).cells).1
       have hgl:wr.heap.size<WW.heap.size:=(Array.getElem?_eq_some_iff.1 P0).1
       have hsD:WW.drew.heap.size=WW.heap.size:=rfl
       obtain⟨ti,hi0,hz0,hz1,hz2⟩:=info_parts prod_info
       clear q0 q1 q2 q3 q4 q5 q6 q7 q8
       refine wp_region_held_drew (S:=(fun w'=>w'.heap[wr.heap.size]? =some (.cells #[.string S0,.int .i64 mk1,.int .i64 k1,.string S1,.slice a1 n1 c1,.slice a2 n2 c2,.int .i64 q,.slice aN nN cN,.int .i64 qr] 151))) (by kernel_rfl) (P0) (fun hHeld=> ?_)
       refine tkh 0 ?_ rfl (by kernel_rfl) (fun _ _ _ h=>h) ?_ (by assumption) ?_
       rotate_left
       ·intro w hSw;obtain⟨y1,y7⟩:=Z4 hSw;(try clear hSw);go_simp;(try with_reducible rfl)
       try simp only[pls]
       refine tkh 1 ?_ rfl (by kernel_rfl) (fun _ _ _ h=>h) ?_ (by assumption) ?_
       rotate_left
       ·intro w hSw;obtain⟨y1,y7⟩:=Z4 hSw;(try clear hSw);go_simp;(try with_reducible rfl)
       try simp only[pls]
       refine tkh 2 ?_ rfl (by kernel_rfl) (fun _ _ _ h=>h) ?_ (by assumption) ?_
       rotate_left
       ·intro w hSw;obtain⟨y1,y7⟩:=Z4 hSw;(try clear hSw);go_simp;(try with_reducible rfl)
       try simp only[pls]
       refine tkh 3 ?_ rfl (by kernel_rfl) (fun _ _ _ h=>h) ?_ (by assumption) ?_
       rotate_left
       ·intro w hSw;obtain⟨y1,y7⟩:=Z4 hSw;(try clear hSw);go_simp;(try with_reducible rfl)
       try simp only[pls]
       refine tkh 5 ?_ rfl (by kernel_rfl) (fun _ _ _ h=>h) ?_ (by assumption) ?_
       rotate_left
       ·intro w hSw;obtain⟨y1,y7⟩:=Z4 hSw;(try clear hSw);go_simp;(try with_reducible rfl)
       try simp only[pls]
       refine tkh 6 ?_ rfl (by kernel_rfl) (fun _ _ _ h=>h) ?_ (by assumption) ?_
       rotate_left
       ·intro w hSw;obtain⟨y1,y7⟩:=Z4 hSw;(try clear hSw);go_simp;(try with_reducible rfl)
       try simp only[pls]
       refine tkh 7 ?_ rfl (by kernel_rfl) (fun _ _ _ h=>h) ?_ (by assumption) ?_
       rotate_left
       ·intro w hSw;obtain⟨y1,y7⟩:=Z4 hSw;(try clear hSw);go_simp;(try with_reducible rfl)
       try simp only[pls]
       refine tkh 8 ?_ rfl (by kernel_rfl) (fun _ _ _ h=>h) ?_ (by assumption) ?_
       rotate_left
       ·intro w hSw;obtain⟨y1,y7⟩:=Z4 hSw;(try clear hSw);go_simp;(try with_reducible rfl)
       try simp only[pls]
       refine wpAnyH_ready (rs:=[4,9]) (by kernel_rfl) (by simp) ?_
       refine AllReadyH.cons rfl (fun K hK=> ?_) (AllReadyH.cons rfl (fun K hK=> ?_) AllReadyH.nil)
       ·go_simp
        refine hK.out _ _ (P0) (fun hHeld=> ?_)
        clear hK K
        try simp only[pls]
        refine wpAnyH_ready (rs:=[9]) (by kernel_rfl) (by simp) ?_
        refine AllReadyH.cons rfl (fun K hK=> ?_) AllReadyH.nil
        go_simp
        refine(zq CC _ BD).mono ?_
        clear CC
        rintro e w3 ⟨ac,cc,rfl,r3,y3,b3⟩
        have P3:w3.heap[wr.heap.size]? =some (.cells #[.string S0,.int .i64 mk1,.int .i64 k1,.string S1,.slice a1 n1 c1,.slice a2 n2 c2,.int .i64 q,.slice aN nN cN,.int .i64 qr] 151):=(b3.block _ hgl).trans P0
        have B3:Below wr.heap.size wr w3:=zY BD b3
        have c03:w3.cell? ⟨b,0,none⟩=some (.slice va MD.length vc):=(yV ((zq hM2).later B3).cells).1
        have c03a:∀o,(w3.alloc o).cell? ⟨b,0,none⟩=some (.slice va MD.length vc):=fun o=>(yV ((zq hM2).later (zY B3 (Below.new1 o))).cells).1
        have h3:=((zq hM2).later B3).lt
        obtain⟨-,cs3,HO,hpr3⟩:=((zq hM2).later B3).made
        have HO:w3.ownsRow B 41 3 (.slice va MD.length vc) MD.length cs3:=HO
        have HPR3:=zk hpr3
        have HM3:=zk ((zq hM2).later B3)
        have HB3:=zk B3
        have hs3:=B3.size
        have hbw3:=Nat.le_trans (zq HBB) (Nat.le_trans hsw2 hs3)
        have HR3:=zk r3
        have HY3:=zk y3
        clear r3 y3 b3 B3 c0 hpr3
        refine hK.out _ _ (P3) (fun hHeld=> ?_)
        clear hK K
        try simp only[pls]
        refine tkh 10 ?_ rfl (by kernel_rfl) (fun _ _ _ h=>h) ?_ (by assumption) ?_
        rotate_left
        ·intro w hSw;skip;(try clear hSw);go_simp;(try with_reducible rfl)
        try simp only[pls]
        refine wpAnyH_ready (rs:=[11]) (by kernel_rfl) (by simp) ?_
        refine AllReadyH.cons rfl (fun K hK=> ?_) AllReadyH.nil
        go_simp
        refine hK.out _ _ (zK P3 _) (fun hHeld=> ?_)
        clear hK K
        try simp only[pls]
        refine wpAnyH_ready (rs:=[12]) (by kernel_rfl) (by simp) ?_
        refine AllReadyH.cons rfl (fun K hK=> ?_) AllReadyH.nil
        refine step_append_lies _ rfl _ _ 22 rfl B 41 ti _ 3 56 Tryz.underlying22 hi0 hz0 hz1 hz2 rfl (by omega) _ _ _ rfl (HO.alloc _) ⟨w3.heap.size,0,none⟩ 1 1 [.slice none 0 0,.int .i64 mk1,.slice ac nN cc] rfl rfl (new_prod _ _ _ _ _ rfl) (by simp[Value.oneCell'])  (by omega) (by unfold maxLen;omega) (by omega) (by simp;omega) (w3.heap.size+1) (by simp) ?_
        intro gg cap1 w6 hown1 hgrow hat hlt1
        have hb6:w6.heap[b]? =some (.cells (qw (.slice va MD.length vc) m b 0 ⟨MD,2147483647,0,0⟩) 111):=(hgrow.block b (by rw[World.size_alloc];omega) (fun e=>(zq HM3).made_ne b e.symm rfl)).trans (zK (zq HM3).cells _)
        obtain⟨u0,-,-,-,-,-,z0,-,-,-,-⟩:=yV hb6
        have hlw6:b<w6.heap.size:=(Array.getElem?_eq_some_iff.1 hb6).1
        have P6:w6.heap[wr.heap.size]? =some (.cells #[.string S0,.int .i64 mk1,.int .i64 k1,.string S1,.slice a1 n1 c1,.slice a2 n2 c2,.int .i64 q,.slice aN nN cN,.int .i64 qr] 151):=(hgrow.block _ (by rw[World.size_alloc];have:=(Array.getElem?_eq_some_iff.1 P3).1;omega) (fun e=>by have:=HO.lt _ e.symm;obtain⟨cz,hcz⟩:=ju HO _ e.symm;rw[P3]at hcz;injection hcz with hcz;injection hcz with _ hcz;exact absurd hcz (by decide))).trans (zK P3 _)
        have G6:=(zq HM3).grow (W:=w3.alloc (.cells #[.slice none 0 0,.int .i64 mk1,.slice ac nN cc] 41)) (Below.new1 _) (zq hml59) (zq HPR3) (p:=([],mk1,NN)) (AltV.none _ _) (⟨ac,cc,by rw[zq HNN],by rw[zq HNN];exact(zq HR3).later (Below.new1 _) (Nat.le_refl _),(vK (KR.of (Below.new1 _)) (zq HR3) (zq HY3)).2⟩) hown1 hgrow (by rcases hat with h|h;exact .inl h;exact .inr (by simp[h]))
        have HM6:=zk G6.1
        have HF6:=zk ((zq hF2).then ((Fb.of (Nat.le_trans (zq HBB) hsw2) (zq HB3)).then (Fb.fl G6.2 hbw3 (zq HM3).cells)))
        have s6:=(zq HF6).2.2
        have P6b:(w6.setCell ⟨b,0,none⟩ (.slice (some ⟨gg,0,none⟩) (MD.length+1) cap1)).heap[wr.heap.size]? =some (.cells #[.string S0,.int .i64 mk1,.int .i64 k1,.string S1,.slice a1 n1 c1,.slice a2 n2 c2,.int .i64 q,.slice aN nN cN,.int .i64 qr] 151):=zw P6 (by omega) _
        clear hb6 hown1 hgrow hat hlt1 G6 HO
        refine hK.out _ _ (P6) (fun hHeld=> ?_)
        clear hK K
        try simp only[pls]
        refine tkh 13 ?_ rfl (by kernel_rfl) (fun _ _ _ h=>h) ?_ (by assumption) ?_
        rotate_left
        ·intro w hSw;skip;(try clear hSw);go_simp;(try with_reducible rfl)
        try simp only[pls]
        refine tkh 14 ?_ rfl (by kernel_rfl) (fun _ _ _ h=>h) ?_ (by assumption) ?_
        rotate_left
        ·intro w hSw;skip;(try clear hSw);go_simp;(try with_reducible rfl)
        try simp only[pls]
        refine wpAnyH_ready (rs:=[15]) (by kernel_rfl) (by simp) ?_
        refine AllReadyH.cons rfl (fun K hK=> ?_) AllReadyH.nil
        go_simp
        refine hK.out _ _ (P6b) (fun hHeld=> ?_)
        clear hK K
        try simp only[pls]
        refine wpAnyH_done (by kernel_rfl) ?_ _
        go_wp2_with fail
        go_roundw
        case rel=>exact⟨i2+1,_,by omega,by simp,by show MakV _ _ _ _ _ _ _ _ _;rw[zq NXT];exact zq HM6,HF6,s6⟩
        case measure=>simp[intOf];omega
       ·go_simp
        refine(zq CC _ BD).mono ?_
        clear CC
        rintro e w3 ⟨ac,cc,rfl,r3,y3,b3⟩
        have P3:w3.heap[wr.heap.size]? =some (.cells #[.string S0,.int .i64 mk1,.int .i64 k1,.string S1,.slice a1 n1 c1,.slice a2 n2 c2,.int .i64 q,.slice aN nN cN,.int .i64 qr] 151):=(b3.block _ hgl).trans P0
        have B3:Below wr.heap.size wr w3:=zY BD b3
        have c03:w3.cell? ⟨b,0,none⟩=some (.slice va MD.length vc):=(yV ((zq hM2).later B3).cells).1
        have c03a:∀o,(w3.alloc o).cell? ⟨b,0,none⟩=some (.slice va MD.length vc):=fun o=>(yV ((zq hM2).later (zY B3 (Below.new1 o))).cells).1
        have h3:=((zq hM2).later B3).lt
        obtain⟨-,cs3,HO,hpr3⟩:=((zq hM2).later B3).made
        have HO:w3.ownsRow B 41 3 (.slice va MD.length vc) MD.length cs3:=HO
        have HPR3:=zk hpr3
        have HM3:=zk ((zq hM2).later B3)
        have HB3:=zk B3
        have hs3:=B3.size
        have hbw3:=Nat.le_trans (zq HBB) (Nat.le_trans hsw2 hs3)
        have HR3:=zk r3
        have HY3:=zk y3
        clear r3 y3 b3 B3 c0 hpr3
        refine hK.out _ _ (P3) (fun hHeld=> ?_)
        clear hK K
        try simp only[pls]
        refine tkh 10 ?_ rfl (by kernel_rfl) (fun _ _ _ h=>h) ?_ (by assumption) ?_
        rotate_left
        ·intro w hSw;skip;(try clear hSw);go_simp;(try with_reducible rfl)
        try simp only[pls]
        refine wpAnyH_ready (rs:=[4,11]) (by kernel_rfl) (by simp) ?_
        refine AllReadyH.cons rfl (fun K hK=> ?_) (AllReadyH.cons rfl (fun K hK=> ?_) AllReadyH.nil)
        ·go_simp
         refine hK.out _ _ (P3) (fun hHeld=> ?_)
         clear hK K
         try simp only[pls]
         refine wpAnyH_ready (rs:=[11]) (by kernel_rfl) (by simp) ?_
         refine AllReadyH.cons rfl (fun K hK=> ?_) AllReadyH.nil
         go_simp
         refine hK.out _ _ (zK P3 _) (fun hHeld=> ?_)
         clear hK K
         try simp only[pls]
         refine wpAnyH_ready (rs:=[12]) (by kernel_rfl) (by simp) ?_
         refine AllReadyH.cons rfl (fun K hK=> ?_) AllReadyH.nil
         refine step_append_lies _ rfl _ _ 22 rfl B 41 ti _ 3 56 Tryz.underlying22 hi0 hz0 hz1 hz2 rfl (by omega) _ _ _ rfl (HO.alloc _) ⟨w3.heap.size,0,none⟩ 1 1 [.slice none 0 0,.int .i64 mk1,.slice ac nN cc] rfl rfl (new_prod _ _ _ _ _ rfl) (by simp[Value.oneCell'])  (by omega) (by unfold maxLen;omega) (by omega) (by simp;omega) (w3.heap.size+1) (by simp) ?_
         intro gg cap1 w6 hown1 hgrow hat hlt1
         have hb6:w6.heap[b]? =some (.cells (qw (.slice va MD.length vc) m b 0 ⟨MD,2147483647,0,0⟩) 111):=(hgrow.block b (by rw[World.size_alloc];omega) (fun e=>(zq HM3).made_ne b e.symm rfl)).trans (zK (zq HM3).cells _)
         obtain⟨u0,-,-,-,-,-,z0,-,-,-,-⟩:=yV hb6
         have hlw6:b<w6.heap.size:=(Array.getElem?_eq_some_iff.1 hb6).1
         have P6:w6.heap[wr.heap.size]? =some (.cells #[.string S0,.int .i64 mk1,.int .i64 k1,.string S1,.slice a1 n1 c1,.slice a2 n2 c2,.int .i64 q,.slice aN nN cN,.int .i64 qr] 151):=(hgrow.block _ (by rw[World.size_alloc];have:=(Array.getElem?_eq_some_iff.1 P3).1;omega) (fun e=>by have:=HO.lt _ e.symm;obtain⟨cz,hcz⟩:=ju HO _ e.symm;rw[P3]at hcz;injection hcz with hcz;injection hcz with _ hcz;exact absurd hcz (by decide))).trans (zK P3 _)
         have G6:=(zq HM3).grow (W:=w3.alloc (.cells #[.slice none 0 0,.int .i64 mk1,.slice ac nN cc] 41)) (Below.new1 _) (zq hml59) (zq HPR3) (p:=([],mk1,NN)) (AltV.none _ _) (⟨ac,cc,by rw[zq HNN],by rw[zq HNN];exact(zq HR3).later (Below.new1 _) (Nat.le_refl _),(vK (KR.of (Below.new1 _)) (zq HR3) (zq HY3)).2⟩) hown1 hgrow (by rcases hat with h|h;exact .inl h;exact .inr (by simp[h]))
         have HM6:=zk G6.1
         have HF6:=zk ((zq hF2).then ((Fb.of (Nat.le_trans (zq HBB) hsw2) (zq HB3)).then (Fb.fl G6.2 hbw3 (zq HM3).cells)))
         have s6:=(zq HF6).2.2
         have P6b:(w6.setCell ⟨b,0,none⟩ (.slice (some ⟨gg,0,none⟩) (MD.length+1) cap1)).heap[wr.heap.size]? =some (.cells #[.string S0,.int .i64 mk1,.int .i64 k1,.string S1,.slice a1 n1 c1,.slice a2 n2 c2,.int .i64 q,.slice aN nN cN,.int .i64 qr] 151):=zw P6 (by omega) _
         clear hb6 hown1 hgrow hat hlt1 G6 HO
         refine hK.out _ _ (P6) (fun hHeld=> ?_)
         clear hK K
         try simp only[pls]
         refine tkh 13 ?_ rfl (by kernel_rfl) (fun _ _ _ h=>h) ?_ (by assumption) ?_
         rotate_left
         ·intro w hSw;skip;(try clear hSw);go_simp;(try with_reducible rfl)
         try simp only[pls]
         refine tkh 14 ?_ rfl (by kernel_rfl) (fun _ _ _ h=>h) ?_ (by assumption) ?_
         rotate_left
         ·intro w hSw;skip;(try clear hSw);go_simp;(try with_reducible rfl)
         try simp only[pls]
         refine wpAnyH_ready (rs:=[15]) (by kernel_rfl) (by simp) ?_
         refine AllReadyH.cons rfl (fun K hK=> ?_) AllReadyH.nil
         go_simp
         refine hK.out _ _ (P6b) (fun hHeld=> ?_)
         clear hK K
         try simp only[pls]
         refine wpAnyH_done (by kernel_rfl) ?_ _
         go_wp2_with fail
         go_roundw
         case rel=>exact⟨i2+1,_,by omega,by simp,by show MakV _ _ _ _ _ _ _ _ _;rw[zq NXT];exact zq HM6,HF6,s6⟩
         case measure=>simp[intOf];omega
        ·go_simp
         refine hK.out _ _ (zK P3 _) (fun hHeld=> ?_)
         clear hK K
         try simp only[pls]
         refine wpAnyH_ready (rs:=[4]) (by kernel_rfl) (by simp) ?_
         refine AllReadyH.cons rfl (fun K hK=> ?_) AllReadyH.nil
         go_simp
         refine hK.out _ _ (zK P3 _) (fun hHeld=> ?_)
         clear hK K
         try simp only[pls]
         refine wpAnyH_ready (rs:=[12]) (by kernel_rfl) (by simp) ?_
         refine AllReadyH.cons rfl (fun K hK=> ?_) AllReadyH.nil
         refine step_append_lies _ rfl _ _ 22 rfl B 41 ti _ 3 56 Tryz.underlying22 hi0 hz0 hz1 hz2 rfl (by omega) _ _ _ rfl (HO.alloc _) ⟨w3.heap.size,0,none⟩ 1 1 [.slice none 0 0,.int .i64 mk1,.slice ac nN cc] rfl rfl (new_prod _ _ _ _ _ rfl) (by simp[Value.oneCell'])  (by omega) (by unfold maxLen;omega) (by omega) (by simp;omega) (w3.heap.size+1) (by simp) ?_
         intro gg cap1 w6 hown1 hgrow hat hlt1
         have hb6:w6.heap[b]? =some (.cells (qw (.slice va MD.length vc) m b 0 ⟨MD,2147483647,0,0⟩) 111):=(hgrow.block b (by rw[World.size_alloc];omega) (fun e=>(zq HM3).made_ne b e.symm rfl)).trans (zK (zq HM3).cells _)
         obtain⟨u0,-,-,-,-,-,z0,-,-,-,-⟩:=yV hb6
         have hlw6:b<w6.heap.size:=(Array.getElem?_eq_some_iff.1 hb6).1
         have P6:w6.heap[wr.heap.size]? =some (.cells #[.string S0,.int .i64 mk1,.int .i64 k1,.string S1,.slice a1 n1 c1,.slice a2 n2 c2,.int .i64 q,.slice aN nN cN,.int .i64 qr] 151):=(hgrow.block _ (by rw[World.size_alloc];have:=(Array.getElem?_eq_some_iff.1 P3).1;omega) (fun e=>by have:=HO.lt _ e.symm;obtain⟨cz,hcz⟩:=ju HO _ e.symm;rw[P3]at hcz;injection hcz with hcz;injection hcz with _ hcz;exact absurd hcz (by decide))).trans (zK P3 _)
         have G6:=(zq HM3).grow (W:=w3.alloc (.cells #[.slice none 0 0,.int .i64 mk1,.slice ac nN cc] 41)) (Below.new1 _) (zq hml59) (zq HPR3) (p:=([],mk1,NN)) (AltV.none _ _) (⟨ac,cc,by rw[zq HNN],by rw[zq HNN];exact(zq HR3).later (Below.new1 _) (Nat.le_refl _),(vK (KR.of (Below.new1 _)) (zq HR3) (zq HY3)).2⟩) hown1 hgrow (by rcases hat with h|h;exact .inl h;exact .inr (by simp[h]))
         have HM6:=zk G6.1
         have HF6:=zk ((zq hF2).then ((Fb.of (Nat.le_trans (zq HBB) hsw2) (zq HB3)).then (Fb.fl G6.2 hbw3 (zq HM3).cells)))
         have s6:=(zq HF6).2.2
         have P6b:(w6.setCell ⟨b,0,none⟩ (.slice (some ⟨gg,0,none⟩) (MD.length+1) cap1)).heap[wr.heap.size]? =some (.cells #[.string S0,.int .i64 mk1,.int .i64 k1,.string S1,.slice a1 n1 c1,.slice a2 n2 c2,.int .i64 q,.slice aN nN cN,.int .i64 qr] 151):=zw P6 (by omega) _
         clear hb6 hown1 hgrow hat hlt1 G6 HO
         refine hK.out _ _ (P6) (fun hHeld=> ?_)
         clear hK K
         try simp only[pls]
         refine tkh 13 ?_ rfl (by kernel_rfl) (fun _ _ _ h=>h) ?_ (by assumption) ?_
         rotate_left
         ·intro w hSw;skip;(try clear hSw);go_simp;(try with_reducible rfl)
         try simp only[pls]
         refine tkh 14 ?_ rfl (by kernel_rfl) (fun _ _ _ h=>h) ?_ (by assumption) ?_
         rotate_left
         ·intro w hSw;skip;(try clear hSw);go_simp;(try with_reducible rfl)
         try simp only[pls]
         refine wpAnyH_ready (rs:=[15]) (by kernel_rfl) (by simp) ?_
         refine AllReadyH.cons rfl (fun K hK=> ?_) AllReadyH.nil
         go_simp
         refine hK.out _ _ (P6b) (fun hHeld=> ?_)
         clear hK K
         try simp only[pls]
         refine wpAnyH_done (by kernel_rfl) ?_ _
         go_wp2_with fail
         go_roundw
         case rel=>exact⟨i2+1,_,by omega,by simp,by show MakV _ _ _ _ _ _ _ _ _;rw[zq NXT];exact zq HM6,HF6,s6⟩
         case measure=>simp[intOf];omega
      ·obtain rfl:i2=j:=by omega
       go_wp2_with fail
       go_end0
       have e:(L.take i2).map (fun r=>(([]:List (List SY)),r.2.1,r.2.2.2.1))=L.map (fun r=>(([]:List (List SY)),r.2.1,r.2.2.2.1)):=by rw[List.take_of_length_le (by rw[zq HLL];exact Nat.le_refl _)]
       have hmm:=zq hM2
       rw[e]at hmm
       exact⟨rfl,⟨_,_,by rw[zq FIN];exact hmm,fun _=>rfl⟩,zq hF2⟩
theorem Xx {W:World} {g:Nat} {x0 x1 x2 x3 x4 x5 x6 x7 x8:Value} {t:TypeId} (h:W.heap[g]? =some (.cells #[x0,x1,x2,x3,x4,x5,x6,x7,x8] t)):W.cell? ⟨g,2,none⟩=some x2∧W.cell? ⟨g,3,none⟩=some x3∧W.cell? ⟨g,4,none⟩=some x4∧W.cell? ⟨g,5,none⟩=some x5∧W.cell? ⟨g,6,none⟩=some x6:=by
 refine⟨?_,?_,?_,?_,?_⟩<;>simp[World.cell?,h]
theorem rules_on {ns:List (List Int)} {n:Nat} {u:RU} {l:List RU} {i:Nat} {m:Mk} (h:m.why=0):Zy ns n (u::l) i m=Zy ns n l (i+1) ((kj ns n u.2.2.1 m).1.fin i (atP u.2.2.1) (kj ns n u.2.2.1 m).2):=by
 conv=>lhs;unfold Zy
 rw[if_neg (fun c=>c h)]
theorem ruleA_mono (ns:List (List Int)) (n:Nat) (p:PT) (m:Mk):m.made.length≤(kj ns n p m).1.made.length:=by
 unfold kj
 split
 ·exact(each_mono (part_mono ns n 0) _ _ _).1
 ·exact(part_mono ns n 0 m [] p).1
theorem beg_made (L:List RU) (h:(begM L).why=0):(begM L).made.length=L.length:=by
 unfold begM at h⊢
 cases e:Z8 L []with
 |some q=>rw[e]at h;cases h
 |none=>
  rw[e]at h
  simp only at h⊢
  split
  ·rename_i c;rw[if_pos c]at h;cases h
  ·simp
theorem frules_l {n:Nat} {D:Nat→Prop} {w:World} {B b m:Nat} {v:Value} (a:Option Addr) (len cap:Nat) (L:List RU) (hB:B≤w.heap.size) (hD:∀k,w.heap.size≤k→D k) (hm:MakV D w B b m [] 0 v ⟨[],2147483647,0,0⟩) (hr:RsV B n w a len cap L) (hN:∀u∈L,u.2.2.2.1.length≤1000000) (hS:∀u∈L,smP n u.2.2.1):
  Calls Tryz.prog 66 #[.pointer (some ⟨b,0,none⟩),.slice a len cap] w fun e w'=>e= .returned (.tuple #[])∧(∃v' ns',MakV D w' B b m ns' 0 v' (Zu n L))∧Fb B w w':=by
 obtain⟨hc1,hc2⟩:=hr.hcap
 unfold maxLen at hc2
 have hsm:=hr.hsmall
 have HLL:=zk hr.hlen
 have HSS:=zk hS
 have HR0:=zk hr
 have HBB:=zk hB
 have HDD:=zk hD
 have hlt:=hm.lt
 have CB:=zk (fbegin_l a len cap L hB hm hr hN)
 clear hm hr hN hS hD
 go_enter Tryz.func66,Tryz.ntmps66
 go_wp2_with fail
 refine(zq CB).mono ?_
 clear CB
 rintro e w1 ⟨rfl,⟨v1,ns1,mk1,hns⟩,f1⟩
 have M1:Hid (∃v' ns',MakV D w1 B b m ns' 0 v' (begM L)∧((begM L).why=0→ns'=L.map (·.1)∧len≤(begM L).made.length)):=⟨v1,ns1,mk1,fun c=>⟨hns c,by rw[beg_made L c,zq HLL];exact Nat.le_refl _⟩⟩
 have F1:=zk f1
 have s1:=f1.2.2
 clear mk1 hns f1
 go_wp2_with fail
 go_loopw [11] (fun i wr=>∃(j:Nat) (s':Mk),j≤len∧i= .int .i64 (j:Int)∧Hid (Zu n L=Zy (L.map (·.1)) n (L.drop j) j s')∧Hid (∃v' ns',MakV D wr B b m ns' 0 v' s'∧(s'.why=0→ns'=L.map (·.1)∧len≤s'.made.length))∧Hid (Fb B w wr)∧w.heap.size≤wr.heap.size) (fun i _=>len-(intOf i).toNat)
 case atStart=>exact⟨0,begM L,Nat.zero_le _,rfl,rfl,M1,F1,s1⟩
 case round=>
  obtain⟨j,s',hj,rfl,hT,hM,hF,hsw⟩:=hrel
  obtain⟨v',ns',hmk,hns⟩:=zq hM
  have c14:=(yV hmk.cells).2.2.2.2.2.1
  have hb1:=hmk.lt
  have HMK:=zk hmk
  have HNS:=zk hns
  clear hmk hns hM
  by_cases hlt2:j<len
  ·obtain⟨g,off,k1,S1,a1,n1,c1,a2,n2,c2,aN,cN,u,rfl,hg,q0,q1,q2,q3,q4,q5,q6,q7,q8,pv1,hx,hrs,hty,hd,hu⟩:=rules_one ((zq hF).rules (zq HR0)) j hlt2
   have HD1:=zk hd
   have HPV:=zk pv1
   have HSP:=zk (zq HSS u hu)
   have n9:j*9=9*j:=by omega
   clear pv1 hrs hty hd hu hx
   by_cases hw0:s'.why=0
   ·have hbb:(s'.why !=0)=false:=by rw[hw0];rfl
    obtain⟨hns,hml⟩:=zq HNS hw0
    subst hns
    have NXT:Hid (Zu n L=Zy (L.map (·.1)) n (L.drop (j+1)) (j+1) ((kj (L.map (·.1)) n u.2.2.1 s').1.fin j (atP u.2.2.1) (kj (L.map (·.1)) n u.2.2.1 s').2)):=by show _=_;rw[zq hT,zq HD1,rules_on hw0]
    have hmr:len≤(kj (L.map (·.1)) n u.2.2.1 s').1.made.length:=Nat.le_trans hml (ruleA_mono _ _ _ _)
    have hBr:B≤wr.heap.size:=Nat.le_trans (zq HBB) hsw
    have CR:=zk (fun W (bW:Below wr.heap.size wr W)=>frule_l (D:=D) (w:=W) (ns:=L.map (·.1)) (n:=n) _ u.2.2.1 (Nat.le_trans hBr bW.size) (fun k hk=>zq HDD k (Nat.le_trans hsw (Nat.le_trans bW.size hk))) ⟨_,(zq HMK).later bW⟩ (PartB.kept (fun g hg=>⟨hg,bW.block g (Nat.lt_of_lt_of_le hg hBr)⟩) (KR.of bW) n _ u.2.2.1 (zq HPV)) (zq HSP))
    generalize hAR:kj (L.map (·.1)) n u.2.2.1 s'=r at*
    clear hAR
    generalize strOfNums u.1=S0 at*
    generalize u.2.1=mk1 at*
    generalize atP u.2.2.1=q at*
    generalize u.2.2.2.2=qr at*
    generalize u.2.2.2.1.length=nN at*
    clear hw0 hml HPV HSP
    go_wp2_with fail
    have BW:=Below.new1 (w:=wr) (.cells #[.string S0,.int .i64 mk1,.int .i64 k1,.string S1,.slice a1 n1 c1,.slice a2 n2 c2,.int .i64 q,.slice aN nN cN,.int .i64 qr] 151)
    have P0:(wr.alloc (.cells #[.string S0,.int .i64 mk1,.int .i64 k1,.string S1,.slice a1 n1 c1,.slice a2 n2 c2,.int .i64 q,.slice aN nN cN,.int .i64 qr] 151)).heap[wr.heap.size]? =some (.cells #[.string S0,.int .i64 mk1,.int .i64 k1,.string S1,.slice a1 n1 c1,.slice a2 n2 c2,.int .i64 q,.slice aN nN cN,.int .i64 qr] 151):=heap_alloc_new wr _
    generalize wr.alloc (.cells #[.string S0,.int .i64 mk1,.int .i64 k1,.string S1,.slice a1 n1 c1,.slice a2 n2 c2,.int .i64 q,.slice aN nN cN,.int .i64 qr] 151)=WW at*
    have BD:Below wr.heap.size wr WW.drew:=zY BW (zX (k:=1))
    clear q0 q1 q2 q3 q4 q5 q6 q7 q8
    refine wp_region_held_drew (S:=(fun w'=>w'.heap[wr.heap.size]? =some (.cells #[.string S0,.int .i64 mk1,.int .i64 k1,.string S1,.slice a1 n1 c1,.slice a2 n2 c2,.int .i64 q,.slice aN nN cN,.int .i64 qr] 151))) (by kernel_rfl) (P0) (fun hHeld=> ?_)
    refine tkh 0 ?_ rfl (by kernel_rfl) (fun _ _ _ h=>h) ?_ (by assumption) ?_
    rotate_left
    ·intro w hSw;obtain⟨y2,y3,y4,y5,y6⟩:=Xx hSw;(try clear hSw);go_simp;(try with_reducible rfl)
    try simp only[pls]
    refine tkh 1 ?_ rfl (by kernel_rfl) (fun _ _ _ h=>h) ?_ (by assumption) ?_
    rotate_left
    ·intro w hSw;obtain⟨y2,y3,y4,y5,y6⟩:=Xx hSw;(try clear hSw);go_simp;(try with_reducible rfl)
    try simp only[pls]
    refine tkh 2 ?_ rfl (by kernel_rfl) (fun _ _ _ h=>h) ?_ (by assumption) ?_
    rotate_left
    ·intro w hSw;obtain⟨y2,y3,y4,y5,y6⟩:=Xx hSw;(try clear hSw);go_simp;(try with_reducible rfl)
    try simp only[pls]
    refine tkh 3 ?_ rfl (by kernel_rfl) (fun _ _ _ h=>h) ?_ (by assumption) ?_
    rotate_left
    ·intro w hSw;obtain⟨y2,y3,y4,y5,y6⟩:=Xx hSw;(try clear hSw);go_simp;(try with_reducible rfl)
    try simp only[pls]
    refine tkh 4 ?_ rfl (by kernel_rfl) (fun _ _ _ h=>h) ?_ (by assumption) ?_
    rotate_left
    ·intro w hSw;obtain⟨y2,y3,y4,y5,y6⟩:=Xx hSw;(try clear hSw);go_simp;(try with_reducible rfl)
    try simp only[pls]
    refine tkh 5 ?_ rfl (by kernel_rfl) (fun _ _ _ h=>h) ?_ (by assumption) ?_
    rotate_left
    ·intro w hSw;obtain⟨y2,y3,y4,y5,y6⟩:=Xx hSw;(try clear hSw);go_simp;(try with_reducible rfl)
    try simp only[pls]
    refine tkh 6 ?_ rfl (by kernel_rfl) (fun _ _ _ h=>h) ?_ (by assumption) ?_
    rotate_left
    ·intro w hSw;obtain⟨y2,y3,y4,y5,y6⟩:=Xx hSw;(try clear hSw);go_simp;(try with_reducible rfl)
    try simp only[pls]
    refine wpAnyH_ready (rs:=[7]) (by kernel_rfl) (by simp) ?_
    refine AllReadyH.cons rfl (fun K hK=> ?_) AllReadyH.nil
    go_simp
    refine(zq CR _ BD).mono ?_
    clear CR
    rintro e w3 ⟨av,rfl,alt3,⟨mv3,mk3⟩,fl3,l9⟩
    have P3:w3.heap[wr.heap.size]? =some (.cells #[.string S0,.int .i64 mk1,.int .i64 k1,.string S1,.slice a1 n1 c1,.slice a2 n2 c2,.int .i64 q,.slice aN nN cN,.int .i64 qr] 151):=fl3.block _ _ (show WW.drew.heap[wr.heap.size]? =_ from P0) (by omega) (by simp) (fun cs fr e=>by injection e with _ e;exact absurd e (by decide))
    have CF:=zk (ffin_l mk3 j (Nat.lt_of_lt_of_le hlt2 hmr) k1 S1 a1 n1 c1 a2 n2 c2 q av r.2 alt3 (Nat.le_trans l9 (by omega)))
    have HF3:=zk ((zq hF).then ((Fb.of hBr BD).then (Fb.fl fl3 (Nat.le_trans hBr BD.size) ((zq HMK).later BD).cells)))
    obtain⟨va1,va2,rfl,-,-⟩:=alt3.form
    have h3:=mk3.lt
    have s3:=(zq HF3).2.2
    have HM3:=zk mk3
    clear alt3 mk3 fl3 l9
    go_wp2_with fail
    refine hK.out _ _ (P3) (fun hHeld=> ?_)
    clear hK K
    try simp only[pls]
    refine wpAnyH_ready (rs:=[8]) (by kernel_rfl) (by simp) ?_
    refine AllReadyH.cons rfl (fun K hK=> ?_) AllReadyH.nil
    go_simp
    refine(zq CF).mono ?_
    clear CF
    rintro e w4 ⟨rfl,mk4,fl4⟩
    have P4:w4.heap[wr.heap.size]? =some (.cells #[.string S0,.int .i64 mk1,.int .i64 k1,.string S1,.slice a1 n1 c1,.slice a2 n2 c2,.int .i64 q,.slice aN nN cN,.int .i64 qr] 151):=fl4.block _ _ P3 (by omega) (by simp) (fun cs fr e=>by injection e with _ e;exact absurd e (by decide))
    have HF4:=zk ((zq HF3).then (Fb.fl fl4 (Nat.le_trans (zq HBB) s3) (zq HM3).cells))
    have s4:=(zq HF4).2.2
    have M4:Hid (∃v' ns',MakV D w4 B b m ns' 0 v' (r.1.fin j q r.2)∧((r.1.fin j q r.2).why=0→ns'=L.map (·.1)∧len≤(r.1.fin j q r.2).made.length)):=⟨_,_,mk4,fun _=>⟨rfl,by rw[fin_len];exact hmr⟩⟩
    clear mk4 fl4
    go_wp2_with fail
    refine hK.out _ _ (P4) (fun hHeld=> ?_)
    clear hK K
    try simp only[pls]
    refine wpAnyH_done (by kernel_rfl) ?_ _
    clear P0 P3 P4 hHeld
    go_wp2_with fail
    go_roundw
    case rel=>exact⟨j+1,_,by omega,by simp,NXT,M4,HF4,s4⟩
    case measure=>simp[intOf];omega
   ·have hbb:(s'.why !=0)=true:=by rw[bne_iff_ne];exact hw0
    have FIN:Hid (Zu n L=s'):=by show _=_;rw[zq hT];exact rulesM_bad _ _ _ _ _ hw0
    generalize strOfNums u.1=S0 at*
    generalize u.2.1=mk1 at*
    generalize atP u.2.2.1=q at*
    generalize u.2.2.2.2=qr at*
    generalize u.2.2.2.1.length=nN at*
    clear hw0
    go_wp2_with fail
    (try simp only[Exit.inBlock,Exit.then])
    refine bodyPost_ret (results_none rfl _ _ _) rfl ?_
    rw[zq FIN]
    have BW:=Below.new1 (w:=wr) (.cells #[.string S0,.int .i64 mk1,.int .i64 k1,.string S1,.slice a1 n1 c1,.slice a2 n2 c2,.int .i64 q,.slice aN nN cN,.int .i64 qr] 151)
    exact⟨rfl,⟨_,_,(zq HMK).later BW⟩,(zq hF).then (Fb.of (Nat.le_trans (zq HBB) hsw) BW)⟩
  ·obtain rfl:j=len:=by omega
   have FIN:Hid (Zu n L=s'):=by show _=_;rw[zq hT,List.drop_eq_nil_of_le (by rw[zq HLL];exact Nat.le_refl _)];rfl
   go_wp2_with fail
   go_end0
   rw[zq FIN]
   exact⟨rfl,⟨_,_,zq HMK⟩,zq hF⟩
end Go.Proofs.YtcblkmlcbedomaaGreatDoor.F
namespace Go.Proofs.YtcblkmlcbedomaaGreatDoor.R
open Go.RowKit Go.Proofs.YtcblkmlcbedomaaGreatDoor.T
theorem ready_unlisted {md:Region.Mode} {ops:Array Oper} {listed:Array Bool} {i:Nat} (h:i∈Region.ready md ops listed):listed[i]? =some false:=by
 unfold Region.ready at h
 have h2:=(List.mem_filter.1 h).2
 simp only[Bool.and_eq_true,Bool.not_eq_true']at h2
 have h3:=h2.1
 rw[Array.getD_eq_getD_getElem?]at h3
 cases e:listed[i]? with
 |none=>rw[e]at h3;cases h3
 |some b=>rw[e]at h3;simp at h3;rw[h3]
theorem count_drops {l:Array Bool} {i:Nat} (h:l[i]? =some false):(l.setIfInBounds i true).toList.count false<l.toList.count false:=by
 have hi:i<l.toList.length:=by have:=(Array.getElem?_eq_some_iff.1 h).1;simpa using this
 have hv:l.toList[i]=false:=by have:=(Array.getElem?_eq_some_iff.1 h).2;simpa using this
 have hm:0<l.toList.count false:=List.count_pos_iff.2 (by rw[←hv];exact List.getElem_mem hi)
 rw[Array.toList_setIfInBounds,List.count_set hi]
 have e1:((false:Bool)==false)=true:=rfl
 have e2:((true:Bool)==false)=false:=rfl
 rw[hv,e1,e2]
 simp only[if_true,Bool.false_eq_true,if_false]
 omega
theorem all_listed {md:Region.Mode} {ops:Array Oper} {listed:Array Bool} (h:listed.toList.count false=0):Region.ready md ops listed=[]:=by
 cases e:Region.ready md ops listed with
 |nil=>rfl
 |cons i rest=>
  have h1:=ready_unlisted (md:=md) (ops:=ops) (listed:=listed) (i:=i) (by rw[e];exact List.mem_cons_self ..)
  have:=count_drops h1
  omega
theorem wpAny_inv {P:Program} {md:Region.Mode} {ops:Array Oper} {Q:Exit→Act→World→Prop} (I:Array Bool→Act→World→Prop)
  (step:∀listed a w i,I listed a w→i∈Region.ready md ops listed→wpOp P ops Q i (fun a' w'=>I (listed.setIfInBounds i true) a' w') a w)
  (fin:∀listed a w,I listed a w→Region.ready md ops listed=[]→Q .normal a w):
  ∀fuel listed a w,listed.toList.count false≤fuel→I listed a w→wpAny P md ops Q fuel listed a w:=by
 intro fuel
 induction fuel with
 |zero=>
  intro listed a w hc h
  have:=all_listed (md:=md) (ops:=ops) (listed:=listed) (by omega)
  exact⟨this,fin listed a w h this⟩
 |succ fuel ih=>
  intro listed a w hc h
  refine⟨fun hr=>fin listed a w h hr,fun i hi=>wpOp_mono (fun a' w' h'=>ih _ _ _ ?_ h') (step listed a w i h hi)⟩
  have:=count_drops (ready_unlisted hi)
  omega
/-! ### A map of looks that grows -/
def Mf (w:World) (m:Nat) (f:Int→List Int→Option Nat):Prop:=∃es clock l,w.heap[m]? =some (.map es clock)∧EsC es.toList l∧∀k x,(fnd k x l 0).map Prod.snd=f k x
theorem Mf.later {w w':World} {m:Nat} {f:Int→List Int→Option Nat} (h:Mf w m f) (b:Below w.heap.size w w'):Mf w' m f:=by
 obtain⟨es,clock,l,h1,h2,h3⟩:=h
 exact⟨es,clock,l,(b.block m (Array.getElem?_eq_some_iff.1 h1).1).trans h1,h2,h3⟩
theorem fnd_app (k:Int) (x:List Int) (k2:Int) (x2:List Int) (g:Nat):∀(l:List (Int×List Int×Nat)) (n:Nat),(fnd k x (l++[(k2,x2,g)]) n).map Prod.snd=match (fnd k x l n).map Prod.snd with
  |some f=>some f
  |none=>if (k,x)=(k2,x2)then some g else none:=by
 intro l
 induction l with
 |nil=>intro n;simp only[List.nil_append,fnd];split<;>rfl
 |cons e l ih=>
  intro n
  obtain⟨k3,x3,f3⟩:=e
  simp only[List.cons_append,fnd]
  by_cases c:(k,x)=(k3,x3)
  ·rw[if_pos c,if_pos c];rfl
  ·rw[if_neg c,if_neg c];exact ih (n+1)
theorem EsC.snoc {e:MapEntry} {k:Int} {x:List Int} {g:Nat} (hx:U.zv x) (hk:e.key=lookV k x) (hv:e.val= .func (.func g) #[] #[]):∀(es:List MapEntry) (l:List (Int×List Int×Nat)),EsC es l→EsC (es++[e]) (l++[(k,x,g)]):=by
 intro es
 induction es with
 |nil=>
  intro l h
  have:l=[]:=h
  subst this
  exact⟨k,x,g,[],rfl,hx,hk,hv,rfl⟩
 |cons e' es ih=>
  intro l h
  obtain⟨k',x',f',l',rfl,h1,h2,h3,h4⟩:=h
  exact⟨k',x',f',l'++[(k,x,g)],rfl,h1,h2,h3,ih l' h4⟩
theorem Mf.put {w:World} {m:Nat} {f f':Int→List Int→Option Nat} (h:Mf w m f) (k:Int) (x:List Int) (hx:U.zv x) (g:Nat) (hn:f k x=none) (hf':∀k2 x2,f' k2 x2=if (k2,x2)=(k,x)then some g else f k2 x2):
  ∃w',(Instr.mapUpdate 139 (.map (some m)) (.agg #[.int .i64 k,.string (strOfNums x)]) (.func (.func g) #[] #[])).run Tryz.prog w= .ok () w'∧Mf w' m f'∧w'.heap.size=w.heap.size∧(∀j,j≠m→w'.heap[j]? =w.heap[j]?)∧w'.os=w.os∧w'.tape=w.tape∧w'.output=w.output:=by
 obtain⟨es,clock,l,h1,h2,h3⟩:=h
 have hlt:=(Array.getElem?_eq_some_iff.1 h1).1
 have e0:fnd k x l 0=none:=by
  have:=h3 k x
  rw[hn]at this
  cases e:fnd k x l 0 with
  |none=>rfl
  |some p=>rw[e]at this;cases this
 have hg:(getObj m).run Tryz.prog w= .ok (.map es clock) w:=by simp[getObj,h1,Sem.run]
 have hfd:=found k x hx w es.toList l h2
 unfold lookV at hfd
 rw[e0]at hfd
 refine⟨{w with heap:=w.heap.setIfInBounds m (.map (es.push {key:= .agg #[.int .i64 k,.string (strOfNums x)],val:= .func (.func g) #[] #[],born:=clock}) (clock+1))},?_,?_,by simp,fun j hj=>by simp[Array.getElem?_setIfInBounds,Ne.symm hj],rfl,rfl,rfl⟩
 ·have hs:∀o,(setObj m o).run Tryz.prog w= .ok () {w with heap:=w.heap.setIfInBounds m o}:=fun o=>by simp[setObj,Sem.run,h1]
  simp[Instr.mapUpdate,run_underlying Tryz.underlying139,hg,ck_look,hfd,hs]
 ·refine⟨es.push {key:= .agg #[.int .i64 k,.string (strOfNums x)],val:= .func (.func g) #[] #[],born:=clock},clock+1,l++[(k,x,g)],by simp[Array.getElem?_setIfInBounds,hlt],?_,fun k2 x2=> ?_⟩
  ·rw[Array.toList_push]
   exact EsC.snoc hx rfl rfl _ _ h2
  ·rw[fnd_app,h3 k2 x2,hf' k2 x2]
   by_cases c:(k2,x2)=(k,x)
   ·have ek:k2=k:=by injection c
    have ex:x2=x:=by injection c
    rw[if_pos c,ek,ex,hn,if_pos rfl]
   ·rw[if_neg c,if_neg c]
    cases f k2 x2<;>rfl
def fF (l2 l4 l6 l8 l10:Bool) (k:Int) (x:List Int):Option Nat:=
 if (k,x)=(0,[])then (if l2 then some 143 else none)else if (k,x)=(1,[])then (if l4 then some 144 else none)else if (k,x)=(2,[])then (if l6 then some 145 else none)
 else if (k,x)=(3,[])then (if l8 then some 146 else none)else if (k,x)=(4,[40])then (if l10 then some 148 else none)else none
theorem fF_all:fF true true true true true=Z5:=by funext k x;rfl
theorem fF_none (k:Int) (x:List Int):fF false false false false false k x=none:=by
 unfold fF;repeat' split
 all_goals first|rfl|contradiction
theorem fF_call (l4 l6 l8 l10:Bool):fF false l4 l6 l8 l10 0 []=none∧∀k2 x2,fF true l4 l6 l8 l10 k2 x2=if (k2,x2)=(0,[])then some 143 else fF false l4 l6 l8 l10 k2 x2:=by
 constructor
 ·unfold fF;simp
 ·intro k2 x2
  unfold fF
  by_cases c:(k2,x2)=(0,[])
  ·rw[if_pos c]
   have e1:k2=0:=by injection c
   have e2:x2=[]:=by injection c
   subst e1;subst e2
   simp
  ·rw[if_neg c]
   by_cases h:k2=0∧x2=[]
   ·exact absurd (by rw[h.1,h.2]) c
   ·simp[h]
theorem fF_text (l2 l6 l8 l10:Bool):fF l2 false l6 l8 l10 1 []=none∧∀k2 x2,fF l2 true l6 l8 l10 k2 x2=if (k2,x2)=(1,[])then some 144 else fF l2 false l6 l8 l10 k2 x2:=by
 constructor
 ·unfold fF;simp
 ·intro k2 x2
  unfold fF
  by_cases c:(k2,x2)=(1,[])
  ·rw[if_pos c]
   have e1:k2=1:=by injection c
   have e2:x2=[]:=by injection c
   subst e1;subst e2
   simp
  ·rw[if_neg c]
   by_cases h:k2=1∧x2=[]
   ·exact absurd (by rw[h.1,h.2]) c
   ·simp[h]
theorem fF_set (l2 l4 l8 l10:Bool):fF l2 l4 false l8 l10 2 []=none∧∀k2 x2,fF l2 l4 true l8 l10 k2 x2=if (k2,x2)=(2,[])then some 145 else fF l2 l4 false l8 l10 k2 x2:=by
 constructor
 ·unfold fF;simp
 ·intro k2 x2
  unfold fF
  by_cases c:(k2,x2)=(2,[])
  ·rw[if_pos c]
   have e1:k2=2:=by injection c
   have e2:x2=[]:=by injection c
   subst e1;subst e2
   simp
  ·rw[if_neg c]
   by_cases h:k2=2∧x2=[]
   ·exact absurd (by rw[h.1,h.2]) c
   ·simp[h]
theorem fF_octets (l2 l4 l6 l10:Bool):fF l2 l4 l6 false l10 3 []=none∧∀k2 x2,fF l2 l4 l6 true l10 k2 x2=if (k2,x2)=(3,[])then some 146 else fF l2 l4 l6 false l10 k2 x2:=by
 constructor
 ·unfold fF;simp
 ·intro k2 x2
  unfold fF
  by_cases c:(k2,x2)=(3,[])
  ·rw[if_pos c]
   have e1:k2=3:=by injection c
   have e2:x2=[]:=by injection c
   subst e1;subst e2
   simp
  ·rw[if_neg c]
   by_cases h:k2=3∧x2=[]
   ·exact absurd (by rw[h.1,h.2]) c
   ·simp[h]
theorem fF_group (l2 l4 l6 l8:Bool):fF l2 l4 l6 l8 false 4 [40]=none∧∀k2 x2,fF l2 l4 l6 l8 true k2 x2=if (k2,x2)=(4,[40])then some 148 else fF l2 l4 l6 l8 false k2 x2:=by
 constructor
 ·unfold fF;simp
 ·intro k2 x2
  unfold fF
  by_cases c:(k2,x2)=(4,[40])
  ·rw[if_pos c]
   have e1:k2=4:=by injection c
   have e2:x2=[40]:=by injection c
   subst e1;subst e2
   simp
  ·rw[if_neg c]
   by_cases h:k2=4∧x2=[40]
   ·exact absurd (by rw[h.1,h.2]) c
   ·simp[h]
structure AtI (w0:World) (t0 t1 t6 t7:Value) (l0 l2 l4 l6 l8 l9 l10 l11 l12:Bool) (w:World):Prop where
 be:Below w0.heap.size w0 w
 mp:l0=true→∃mm,t1= .map (some mm)∧w0.heap.size≤mm∧Mf w mm (fF l2 l4 l6 l8 l10)
 no:l0=false→l2=false∧l4=false∧l6=false∧l8=false∧l10=false∧l11=false
 sg:l9=true→t6= .agg #[.int .i64 4,.string ⟨#[40]⟩]
 mv:l11=true→t7=t1∧l0=true∧l2=true∧l4=true∧l6=true∧l8=true∧l10=true
 fi:l12=true→l11=true∧t0=t7
theorem atoms_l (w0:World):
  Calls Tryz.prog 98 #[] w0 fun e w'=>∃m,e= .returned (.map (some m))∧w0.heap.size≤m∧Mq w' m∧Below w0.heap.size w0 w':=by
 have hmm:= @run_makeMap Tryz.prog
 go_enter Tryz.func98,Tryz.ntmps98
 go_wp2_with fail
 refine wp_region_any (by kernel_rfl) ?_
 refine wpAny_take (i:=1) (v:= ?_) rfl (by kernel_rfl) (by kernel_rfl) (by kernel_rfl) (fun _ _ _ h=>h) (Or.inl ⟨by kernel_rfl,?_⟩) ?_
 rotate_left
 ·intro w;go_simp;(try with_reducible rfl)
 try simp only[pls]
 refine wpAny_take (i:=3) (v:= ?_) rfl (by kernel_rfl) (by kernel_rfl) (by kernel_rfl) (fun _ _ _ h=>h) (Or.inl ⟨by kernel_rfl,?_⟩) ?_
 rotate_left
 ·intro w;go_simp;(try with_reducible rfl)
 try simp only[pls]
 refine wpAny_take (i:=5) (v:= ?_) rfl (by kernel_rfl) (by kernel_rfl) (by kernel_rfl) (fun _ _ _ h=>h) (Or.inl ⟨by kernel_rfl,?_⟩) ?_
 rotate_left
 ·intro w;go_simp;(try with_reducible rfl)
 try simp only[pls]
 refine wpAny_take (i:=7) (v:= ?_) rfl (by kernel_rfl) (by kernel_rfl) (by kernel_rfl) (fun _ _ _ h=>h) (Or.inl ⟨by kernel_rfl,?_⟩) ?_
 rotate_left
 ·intro w;go_simp;(try with_reducible rfl)
 try simp only[pls]
 refine wpAny_inv (fun listed a w=>∃t0 t1 t6 t7 l0 l2 l4 l6 l8 l9 l10 l11 l12,listed= #[l0,true,l2,true,l4,true,l6,true,l8,l9,l10,l11,l12]∧a={tmps:= #[t0,t1,.agg #[.int .i64 0,.string ⟨#[]⟩],.agg #[.int .i64 1,.string ⟨#[]⟩],.agg #[.int .i64 2,.string ⟨#[]⟩],.agg #[.int .i64 3,.string ⟨#[]⟩],t6,t7],defers:=[]}∧AtI w0 t0 t1 t6 t7 l0 l2 l4 l6 l8 l9 l10 l11 l12 w) ?_ ?_ _ _ _ _ (by decide) ⟨_,_,_,_,false,false,false,false,false,false,false,false,false,by kernel_rfl,rfl,⟨zX (k:=1),(fun h=>by cases h),(fun _=>⟨rfl,rfl,rfl,rfl,rfl,rfl⟩),(fun h=>by cases h),(fun h=>by cases h),(fun h=>by cases h)⟩⟩
 ·rintro listed a w i ⟨t0,t1,t6,t7,l0,l2,l4,l6,l8,l9,l10,l11,l12,rfl,rfl,hI⟩ hi
  have hi2:=List.mem_filter.1 hi
  clear hi
  obtain⟨hr,hc⟩:=hi2
  have h13:i<13:=by simpa using List.mem_range.1 hr
  clear hr
  have hcase:i=0∨i=1∨i=2∨i=3∨i=4∨i=5∨i=6∨i=7∨i=8∨i=9∨i=10∨i=11∨i=12:=by omega
  rcases hcase with rfl|rfl|rfl|rfl|rfl|rfl|rfl|rfl|rfl|rfl|rfl|rfl|rfl
  all_goals simp[Region.binds]at hc
  ·subst hc
   obtain⟨rfl,rfl,rfl,rfl,rfl,rfl⟩:=hI.no rfl
   refine wpOp_step rfl (fun K hK=> ?_)
   go_simp
   refine hK _ _ ⟨t0,.map (some w.heap.size),t6,t7,true,false,false,false,false,l9,false,false,l12,rfl,rfl,?_⟩
   exact⟨hI.be.alloc hI.be.size _,fun _=>⟨w.heap.size,rfl,hI.be.size,#[],0,[],heap_alloc_new w _,rfl,fun k x=>by rw[fF_none];rfl⟩,(fun h=>by cases h),hI.sg,(fun h=>by cases h),(fun h=>by have:=(hI.fi h).1;cases this)⟩
  ·obtain⟨rfl,rfl⟩:=hc
   obtain⟨mm,rfl,hmb,hm⟩:=hI.mp rfl
   obtain⟨w',rr,m',s',o',x1,x2,x3⟩:=hm.put 0 [] (fun z hz=>by cases hz) 143 (fF_call l4 l6 l8 l10).1 (fF_call l4 l6 l8 l10).2
   rw[show strOfNums []=⟨#[]⟩ from rfl]at rr
   refine wpOp_step rfl (fun K hK=> ?_)
   go_simp
   refine hK _ _ ⟨t0,.map (some mm),t6,t7,true,true,l4,l6,l8,l9,l10,l11,l12,rfl,rfl,?_⟩
   exact⟨qJ hI.be hmb s' o' x1 x2 x3,fun _=>⟨mm,rfl,hmb,m'⟩,(fun h=>by cases h),hI.sg,(fun h=>by have:=(hI.mv h).2.2.1;cases this),hI.fi⟩
  ·obtain⟨rfl,rfl⟩:=hc
   obtain⟨mm,rfl,hmb,hm⟩:=hI.mp rfl
   obtain⟨w',rr,m',s',o',x1,x2,x3⟩:=hm.put 1 [] (fun z hz=>by cases hz) 144 (fF_text l2 l6 l8 l10).1 (fF_text l2 l6 l8 l10).2
   rw[show strOfNums []=⟨#[]⟩ from rfl]at rr
   refine wpOp_step rfl (fun K hK=> ?_)
   go_simp
   refine hK _ _ ⟨t0,.map (some mm),t6,t7,true,l2,true,l6,l8,l9,l10,l11,l12,rfl,rfl,?_⟩
   exact⟨qJ hI.be hmb s' o' x1 x2 x3,fun _=>⟨mm,rfl,hmb,m'⟩,(fun h=>by cases h),hI.sg,(fun h=>by have:=(hI.mv h).2.2.2.1;cases this),hI.fi⟩
  ·obtain⟨rfl,rfl⟩:=hc
   obtain⟨mm,rfl,hmb,hm⟩:=hI.mp rfl
   obtain⟨w',rr,m',s',o',x1,x2,x3⟩:=hm.put 2 [] (fun z hz=>by cases hz) 145 (fF_set l2 l4 l8 l10).1 (fF_set l2 l4 l8 l10).2
   rw[show strOfNums []=⟨#[]⟩ from rfl]at rr
   refine wpOp_step rfl (fun K hK=> ?_)
   go_simp
   refine hK _ _ ⟨t0,.map (some mm),t6,t7,true,l2,l4,true,l8,l9,l10,l11,l12,rfl,rfl,?_⟩
   exact⟨qJ hI.be hmb s' o' x1 x2 x3,fun _=>⟨mm,rfl,hmb,m'⟩,(fun h=>by cases h),hI.sg,(fun h=>by have:=(hI.mv h).2.2.2.2.1;cases this),hI.fi⟩
  ·obtain⟨rfl,rfl⟩:=hc
   obtain⟨mm,rfl,hmb,hm⟩:=hI.mp rfl
   obtain⟨w',rr,m',s',o',x1,x2,x3⟩:=hm.put 3 [] (fun z hz=>by cases hz) 146 (fF_octets l2 l4 l6 l10).1 (fF_octets l2 l4 l6 l10).2
   rw[show strOfNums []=⟨#[]⟩ from rfl]at rr
   refine wpOp_step rfl (fun K hK=> ?_)
   go_simp
   refine hK _ _ ⟨t0,.map (some mm),t6,t7,true,l2,l4,l6,true,l9,l10,l11,l12,rfl,rfl,?_⟩
   exact⟨qJ hI.be hmb s' o' x1 x2 x3,fun _=>⟨mm,rfl,hmb,m'⟩,(fun h=>by cases h),hI.sg,(fun h=>by have:=(hI.mv h).2.2.2.2.2.1;cases this),hI.fi⟩
  ·subst hc
   refine wpOp_step rfl (fun K hK=> ?_)
   go_simp
   refine(ZW ⟨#[40]⟩ _).mono ?_
   rintro e w' ⟨rfl,b'⟩
   refine hK _ _ ⟨t0,t1,.agg #[.int .i64 4,.string ⟨#[40]⟩],t7,l0,l2,l4,l6,l8,true,l10,l11,l12,rfl,rfl,?_⟩
   refine⟨zY hI.be b',fun h=> ?_,hI.no,fun _=>rfl,hI.mv,hI.fi⟩
   obtain⟨mm,e,hmb,hm⟩:=hI.mp h
   exact⟨mm,e,hmb,hm.later b'⟩
  ·obtain⟨rfl,rfl,rfl⟩:=hc
   obtain⟨mm,rfl,hmb,hm⟩:=hI.mp rfl
   obtain rfl:=hI.sg rfl
   obtain⟨w',rr,m',s',o',x1,x2,x3⟩:=hm.put 4 [40] (ye (by omega) (by omega) (fun z hz=>by cases hz)) 148 (fF_group l2 l4 l6 l8).1 (fF_group l2 l4 l6 l8).2
   rw[show strOfNums [40]=⟨#[40]⟩ from rfl]at rr
   refine wpOp_step rfl (fun K hK=> ?_)
   go_simp
   refine hK _ _ ⟨t0,.map (some mm),.agg #[.int .i64 4,.string ⟨#[40]⟩],t7,true,l2,l4,l6,l8,true,true,l11,l12,rfl,rfl,?_⟩
   exact⟨qJ hI.be hmb s' o' x1 x2 x3,fun _=>⟨mm,rfl,hmb,m'⟩,(fun h=>by cases h),hI.sg,(fun h=>by have:=(hI.mv h).2.2.2.2.2.2;cases this),hI.fi⟩
  ·obtain⟨rfl,rfl,rfl,rfl,rfl,rfl,rfl,rfl⟩:=hc
   refine wpOp_step rfl (fun K hK=> ?_)
   go_simp
   refine hK _ _ ⟨t0,t1,t6,t1,true,true,true,true,true,true,true,true,l12,rfl,rfl,?_⟩
   exact⟨hI.be,hI.mp,(fun h=>by cases h),hI.sg,fun _=>⟨rfl,rfl,rfl,rfl,rfl,rfl,rfl⟩,(fun h=>by have:=(hI.fi h).1;cases this)⟩
  ·obtain⟨rfl,hc⟩:=hc
   have e11:l11=true:=hc.1
   subst e11
   refine wpOp_step rfl (fun K hK=> ?_)
   go_simp
   refine hK _ _ ⟨t7,t1,t6,t7,l0,l2,l4,l6,l8,l9,l10,true,true,rfl,rfl,?_⟩
   exact⟨hI.be,hI.mp,hI.no,hI.sg,hI.mv,fun _=>⟨rfl,rfl⟩⟩
 ·rintro listed a w ⟨t0,t1,t6,t7,l0,l2,l4,l6,l8,l9,l10,l11,l12,rfl,rfl,hI⟩ hr
  have hq:=fun i (hi:i<13)=>List.filter_eq_nil_iff.1 hr i (List.mem_range.2 hi)
  clear hr
  have e0:l0=true:=by
   cases l0 with
   |true=>rfl
   |false=>exact absurd (hq 0 (by decide)) (by simp[Region.binds])
  subst e0
  have e2:l2=true:=by
   cases l2 with
   |true=>rfl
   |false=>exact absurd (hq 2 (by decide)) (by simp[Region.binds])
  subst e2
  have e4:l4=true:=by
   cases l4 with
   |true=>rfl
   |false=>exact absurd (hq 4 (by decide)) (by simp[Region.binds])
  subst e4
  have e6:l6=true:=by
   cases l6 with
   |true=>rfl
   |false=>exact absurd (hq 6 (by decide)) (by simp[Region.binds])
  subst e6
  have e8:l8=true:=by
   cases l8 with
   |true=>rfl
   |false=>exact absurd (hq 8 (by decide)) (by simp[Region.binds])
  subst e8
  have e9:l9=true:=by
   cases l9 with
   |true=>rfl
   |false=>exact absurd (hq 9 (by decide)) (by simp[Region.binds])
  subst e9
  have e10:l10=true:=by
   cases l10 with
   |true=>rfl
   |false=>exact absurd (hq 10 (by decide)) (by simp[Region.binds])
  subst e10
  have e11:l11=true:=by
   cases l11 with
   |true=>rfl
   |false=>exact absurd (hq 11 (by decide)) (by simp[Region.binds])
  subst e11
  have e12:l12=true:=by
   cases l12 with
   |true=>rfl
   |false=>exact absurd (hq 12 (by decide)) (by simp[Region.binds])
  subst e12
  obtain⟨mm,rfl,hmb,hm⟩:=hI.mp rfl
  obtain⟨rfl,-⟩:=hI.mv rfl
  obtain⟨-,rfl⟩:=hI.fi rfl
  have HB:=zk hI.be
  have HM:Hid (Mq w mm):=by
   rw[fF_all]at hm
   exact hm
  clear hq hI hm
  go_wp2_with fail
  go_ret
  exact⟨mm,rfl,hmb,zq HM,zq HB⟩
theorem newReader_l (w:World) (base:Nat) (a:Option Addr) (c:Nat) (ts:List TN) (n:Nat) (h:Tks w base (.slice a ts.length c) ts) (hb:base≤w.heap.size) (hl:ts.length≤600) (hn:n≤1000000) (ho:∀x∈ts,okT x.1∧x.2≤1000000):
  Calls Tryz.prog 63 #[.slice a ts.length c,.int .i64 (n:Int)] w fun e w'=>∃b G m,e= .returned (.pointer (some ⟨b,0,none⟩))∧base≤b∧Rd w' b G (ts++[((-1,[],[]),n)]) m (dp 12)∧Mq w' m∧Ends (ts++[((-1,[],[]),n)])∧Below base w w':=by
 obtain⟨cs,own,tc⟩:=h
 have CA:=zk (fun W=>atoms_l W)
 have EN:Hid (Ends (ts++[((-1,[],[]),n)])):=⟨ts,n,rfl,hn,ho⟩
 have HTC:=zk tc
 obtain⟨ti,hi0,hz0,hz1,hz2⟩:=info_parts infoTok3
 clear tc ho
 go_enter Tryz.func63,Tryz.ntmps63
 go_wp2_with (at_builtin;refine wpList_append_lies _ rfl _ _ 94 rfl base 135 ti _ 4 56 Tryz.underlying94 hi0 hz0 hz1 hz2 rfl (by omega) _ _ _ rfl (own.alloc _) ⟨w.heap.size,0,none⟩ 1 1 [.int .i64 (-1),.string ⟨#[]⟩,.slice none 0 0,.int .i64 (n:Int)] rfl rfl (new_tok _ _ _ _ _ _ rfl) (by simp[Value.oneCell']) (by omega) (by unfold maxLen;omega) (by omega) (by simp;omega) (w.heap.size+1) (by simp) ?_;intro gg cap1 w2 hown1 hgrow hat hlt1)
 have s2:=hgrow.size
 have sA:(w.alloc (.cells #[.int .i64 (-1),.string ⟨#[]⟩,.slice none 0 0,.int .i64 (n:Int)] 135)).heap.size=w.heap.size+1:=by simp
 have B2:Below base w w2:=((Below.refl base w).alloc hb _).grown hgrow (by simp;omega) (fun k hk=>(own.lt k hk).1)
 have TV:=TokV.grown (own.alloc (.cells #[.int .i64 (-1),.string ⟨#[]⟩,.slice none 0 0,.int .i64 (n:Int)] 135)) hgrow
 have TC2:=TkC.snoc (w:=w2) (t:=(-1,[],[])) (p:=n) (TokV.plain w2 (-1) [] (n:Int)) ts cs (TkC.mono TV ts cs (TkC.later (zq HTC) (Below.new1 _)))
 have LF:Hid (Lf w2 gg (.slice (some ⟨gg,0,none⟩) (ts.length+1) cap1) (ts++[((-1,[],[]),n)])):=by
  rcases hown1.2 with ⟨e,h0⟩|⟨g,cap,cur,e,hbb,hg,hnn,hm,hs,ht⟩
  ·omega
  ·injection e with e1 e2 e3
   injection e1 with e1
   injection e1 with e1
   subst e1;subst e3
   refine⟨0,cap1,cur,_,_,by rw[List.length_append];rfl,by rw[List.length_append];exact hnn,hm,hg,fun j u hu=> ?_,TC2⟩
   rw[Nat.zero_add]
   have hj:j<(cs++[Value.int .i64 (-1),.string ⟨#[]⟩,.slice none 0 0,.int .i64 (n:Int)]).length:=(List.getElem?_eq_some_iff.1 hu).1
   have hx:=hown1.1
   have hu:(cs++[Value.int .i64 (-1),.string ⟨#[]⟩,.slice none 0 0,.int .i64 (n:Int)])[j]? =some u:=hu
   rw[←ht,List.getElem?_take_of_lt (by rw[hx]at hj;exact hj)]at hu
   simpa using hu
 have HB2:=zk B2
 clear hgrow hat hown1 TV TC2 own HTC
 go_wp2_with fail
 refine(zq CA _).mono ?_
 rintro e w3 ⟨m,rfl,hm3,mq3,b3⟩
 clear CA
 have s3:=b3.size
 go_wp2_with fail
 go_ret
 refine⟨w3.heap.size,gg,m,rfl,by omega,⟨_,heap_alloc_new _ _,Lf.later (Below.new1 _) (Lf.later b3 (zq LF))⟩,mq3.later (Below.new1 _),zq EN,((zq HB2).trans (b3.mono (by omega))).alloc (by omega) _⟩
theorem ta_yes (xT:TypeId) (q y:Int) (W:World):(Instr.typeAssert (.iface 98 (.agg #[.int .i64 q,.int .i64 y])) xT 98 true).run Tryz.prog W= .ok (.tuple #[.agg #[.int .i64 q,.int .i64 y],.bool true]) W:=by kernel_rfl
theorem ta_no (xT:TypeId) (W:World):(Instr.typeAssert .nilIface xT 98 true).run Tryz.prog W= .ok (.tuple #[.agg #[.int .i64 0,.int .i64 0],.bool false]) W:=by kernel_rfl
theorem catch_idle (p2 p3 p4:Option Addr) (w:World):
  CallsD Tryz.prog 62 #[.pointer p2,.pointer p3,.pointer p4] .returning w fun e u' w'=>e= .returned (.tuple #[])∧u'= .returning∧Below w.heap.size w w':=by
 have tn:=ta_no
 refine callsD_of_wpS Tryz.func62 rfl fun c₀ cs hu=> ?_
 apply wpS_seq
 apply wpS_region
 simp[wpOpsS,go_sem,recoverD,hu,Tryz.ntmps62,Exit.thenS,tn]
 refine wpS_of_wp ?_
 go_wp2_with fail
 cases c₀
 simp_all [bodyPostS,results,Tryz.results62]
 exact Below.new1 _
theorem wp_act {P:Program} {c:Code} {Q:Exit→Act→World→Prop} {a a':Act} {w:World} (e:a=a') (h:c.wp P Q a' w):c.wp P Q a w:=e▸h
theorem new_two (W:World) (n:Nat) (hn:n=W.heap.size) (x y:Value) (t:TypeId):(W.alloc (.cells #[x,y] t)).drew.cell? ⟨n,0,none⟩=some x∧(W.alloc (.cells #[x,y] t)).drew.cell? ⟨n,1,none⟩=some y:=by
 subst hn
 exact(yk (heap_alloc_new W (.cells #[x,y] t))).1
structure Out (g:Nat) (f0 f1 at_ er:Value) (w:World):Prop where
 f:w.heap[g]? =some (.cells #[f0,f1] 54)
 a:w.heap[g+1]? =some (.cells #[at_] 3)
 e:w.heap[g+2]? =some (.cells #[er] 55)
theorem catch_wrong (g:Nat) (f0 f1 at_ er:Value) (q y:Int) (older:List PanicEntry) (w:World) (h:Out g f0 f1 at_ er w):
  CallsD Tryz.prog 62 #[.pointer (some ⟨g,0,none⟩),.pointer (some ⟨g+1,0,none⟩),.pointer (some ⟨g+2,0,none⟩)] (.panicking ({v:= .iface 98 (.agg #[.int .i64 q,.int .i64 y]),recovered:=false}::older)) w fun e u' w'=>
   e= .returned (.tuple #[])∧u'= .panicking ({v:= .iface 98 (.agg #[.int .i64 q,.int .i64 y]),recovered:=true}::older)∧Out g (.slice none 0 0) (.slice none 0 0) (.int .i64 q) (.int .i64 y) w'∧Below g w w':=by
 have ty:=ta_yes
 obtain⟨⟨c0,c1⟩,z0,z1⟩:=yk h.f
 have c2:w.cell? ⟨g+1,0,none⟩=some at_:=by simp[World.cell?,h.a]
 have c3:w.cell? ⟨g+2,0,none⟩=some er:=by simp[World.cell?,h.e]
 have z2:w.frozen? ⟨g+1,0,none⟩=false:=by simp[World.frozen?,h.a]
 have z3:w.frozen? ⟨g+2,0,none⟩=false:=by simp[World.frozen?,h.e]
 have l0:=zJ c0
 have l2:=zJ c2
 have l3:=zJ c3
 have HO:=zk h
 clear h
 obtain⟨⟨n0,n1⟩,-⟩:=yk (heap_alloc_new w (.cells #[.int .i64 q,.int .i64 y] 98))
 refine callsD_of_wpS Tryz.func62 rfl fun c₀ cs hu=> ?_
 apply wpS_seq
 apply wpS_region
 simp[wpOpsS,go_sem,recoverD,hu,Tryz.ntmps62,Exit.thenS,ty]
 refine wpS_of_wp ?_
 refine wp_act (a':={tmps:= #[.pointer (some ⟨g,0,none⟩),.pointer (some ⟨g+1,0,none⟩),.pointer (some ⟨g+2,0,none⟩),.pointer (some ⟨w.heap.size,0,none⟩),.bool true,.tuple #[.agg #[.int .i64 q,.int .i64 y],.bool true],.iface 98 (.agg #[.int .i64 q,.int .i64 y]),.tuple #[.agg #[.int .i64 q,.int .i64 y],.bool true],.agg #[.int .i64 q,.int .i64 y],.bool true,undef,undef,undef,undef,undef,undef],defers:=[]}) (by kernel_rfl) ?_
 go_wp2_with fail
 refine wp_region_held_drew (S:=(fun w'=>w'.cell? ⟨w.heap.size,0,none⟩=some (.int .i64 q)∧w'.cell? ⟨w.heap.size,1,none⟩=some (.int .i64 y))) (by kernel_rfl) (⟨n0,n1⟩) (fun hHeld=> ?_)
 refine tkh 0 ?_ rfl (by kernel_rfl) (fun _ _ _ h=>h) ?_ (by assumption) ?_
 rotate_left
 ·intro w hSw;(try dsimp only at hSw);go_simp;(try with_reducible rfl)
 try simp only[pls]
 refine tkh 1 ?_ rfl (by kernel_rfl) (fun _ _ _ h=>h) ?_ (by assumption) ?_
 rotate_left
 ·intro w hSw;(try dsimp only at hSw);go_simp;(try with_reducible rfl)
 try simp only[pls]
 refine tkh 2 ?_ rfl (by kernel_rfl) (fun _ _ _ h=>h) ?_ (by assumption) ?_
 rotate_left
 ·intro w hSw;(try dsimp only at hSw);go_simp;(try with_reducible rfl)
 try simp only[pls]
 refine tkh 3 ?_ rfl (by kernel_rfl) (fun _ _ _ h=>h) ?_ (by assumption) ?_
 rotate_left
 ·intro w hSw;(try dsimp only at hSw);go_simp;(try with_reducible rfl)
 try simp only[pls]
 refine tkh 4 ?_ rfl (by kernel_rfl) (fun _ _ _ h=>h) ?_ (by assumption) ?_
 rotate_left
 ·intro w hSw;(try dsimp only at hSw);go_simp;(try with_reducible rfl)
 try simp only[pls]
 refine wpAnyH_ready (rs:=[5]) (by kernel_rfl) (by simp) ?_
 refine AllReadyH.cons rfl (fun K hK=> ?_) AllReadyH.nil
 go_simp
 refine hK.out _ _ (new_two _ _ (by simp) _ _ _) (fun hHeld=> ?_)
 clear hK K
 try simp only[pls]
 refine wpAnyH_ready (rs:=[6]) (by kernel_rfl) (by simp) ?_
 refine AllReadyH.cons rfl (fun K hK=> ?_) AllReadyH.nil
 go_simp
 refine hK.out _ _ (new_two _ _ (by simp) _ _ _) (fun hHeld=> ?_)
 clear hK K
 try simp only[pls]
 refine wpAnyH_ready (rs:=[7]) (by kernel_rfl) (by simp) ?_
 refine AllReadyH.cons rfl (fun K hK=> ?_) AllReadyH.nil
 go_simp
 refine hK.out _ _ (new_two _ _ (by simp) _ _ _) (fun hHeld=> ?_)
 clear hK K
 try simp only[pls]
 refine wpAnyH_done (by kernel_rfl) ?_ _
 (try simp only[Exit.inBlock,Exit.then])
 have OX:Hid (Out g (.slice none 0 0) (.slice none 0 0) (.int .i64 q) (.int .i64 y) (((((w.setCell ⟨g,0,none⟩ (.slice none 0 0)).setCell ⟨g,1,none⟩ (.slice none 0 0)).setCell ⟨g+1,0,none⟩ (.int .i64 q)).setCell ⟨g+2,0,none⟩ (.int .i64 y)).alloc (.cells #[.int .i64 q,.int .i64 y] 98)).drew):=by
  have o:=zq HO
  have f0:=heap_setCell_same w g 0 _ _ (.slice none 0 0) o.f
  have f1:=heap_setCell_same _ g 1 _ _ (.slice none 0 0) f0
  have a1:=heap_setCell_same _ (g+1) 0 _ _ (.int .i64 q) (zw (i:=1) (x:= .slice none 0 0) (zw (i:=0) (x:= .slice none 0 0) o.a (show g+1≠g by omega)) (show g+1≠g by omega))
  have e1:=heap_setCell_same _ (g+2) 0 _ _ (.int .i64 y) (zw (i:=0) (x:= .int .i64 q) (zw (i:=1) (x:= .slice none 0 0) (zw (i:=0) (x:= .slice none 0 0) o.e (show g+2≠g by omega)) (show g+2≠g by omega)) (show g+2≠g+1 by omega))
  refine⟨?_,?_,?_⟩
  ·refine zK (zw (zw ?_ (by omega) _) (by omega) _) _;simpa using f1
  ·refine zK (zw ?_ (by omega) _) _;simpa using a1
  ·refine zK ?_ _;simpa using e1
 have BX:Hid (Below g w (((((w.setCell ⟨g,0,none⟩ (.slice none 0 0)).setCell ⟨g,1,none⟩ (.slice none 0 0)).setCell ⟨g+1,0,none⟩ (.int .i64 q)).setCell ⟨g+2,0,none⟩ (.int .i64 y)).alloc (.cells #[.int .i64 q,.int .i64 y] 98)).drew):=((((((Below.refl g w).setCell (p:=⟨g,0,none⟩) (Nat.le_refl _) _).setCell (p:=⟨g,1,none⟩) (Nat.le_refl _) _).setCell (p:=⟨g+1,0,none⟩) (Nat.le_succ _) _).setCell (p:=⟨g+2,0,none⟩) (show g≤g+2 by omega) _).alloc (by simp;omega) _).trans (zX (k:=1))
 go_wp2_with fail
 generalize (((((w.setCell ⟨g,0,none⟩ (.slice none 0 0)).setCell ⟨g,1,none⟩ (.slice none 0 0)).setCell ⟨g+1,0,none⟩ (.int .i64 q)).setCell ⟨g+2,0,none⟩ (.int .i64 y)).alloc (.cells #[.int .i64 q,.int .i64 y] 98)).drew=X at*
 cases c₀
 simp_all [bodyPostS,results,Tryz.results62]
 exact⟨zq OX,zq BX⟩
def FileR (w:World) (l:List Int) (e:Ending) (w':World):Prop:=
 (∃q why,fileL l= .inl (q,why)∧e= .returned (.tuple #[.agg #[.slice none 0 0,.slice none 0 0],.int .i64 (q:Nat),.int .i64 why]))∨
 (∃v f,fileL l= .inr f∧e= .returned (.tuple #[v,.int .i64 (l.length:Nat),.int .i64 0])∧FileV (New w w') w' v f)
theorem res_out {tmps:Array Value} {g:Nat} (h2:tmps.getD 2 undef= .pointer (some ⟨g,0,none⟩)) (h3:tmps.getD 3 undef= .pointer (some ⟨g+1,0,none⟩)) (h4:tmps.getD 4 undef= .pointer (some ⟨g+2,0,none⟩)) {X:World} {f0 f1 x y:Value} (o:Out g f0 f1 x y X):
  (results Tryz.f36 tmps).run Tryz.prog X= .ok (.tuple #[.agg #[f0,f1],x,y]) X:=by
 obtain⟨⟨c0,c1⟩,-⟩:=yk o.f
 have c2:X.cell? ⟨g+1,0,none⟩=some x:=by simp[World.cell?,o.a]
 have c3:X.cell? ⟨g+2,0,none⟩=some y:=by simp[World.cell?,o.e]
 have p2:tmps[2]?.getD undef= .pointer (some ⟨g,0,none⟩):=by rw[←h2];simp[Array.getD_eq_getD_getElem?]
 have p3:tmps[3]?.getD undef= .pointer (some ⟨g+1,0,none⟩):=by rw[←h3];simp[Array.getD_eq_getD_getElem?]
 have p4:tmps[4]?.getD undef= .pointer (some ⟨g+2,0,none⟩):=by rw[←h4];simp[Array.getD_eq_getD_getElem?]
 simp[results,Tryz.results36,go_sem,p2,p3,p4,c0,c1,c2,c3]
theorem Out.set {W:World} {g:Nat} {f0 f1 x y:Value} (o:Out g f0 f1 x y W) (f0' f1' x' y':Value):Out g f0' f1' x' y' ((((W.setCell ⟨g,0,none⟩ f0').setCell ⟨g,1,none⟩ f1').setCell ⟨g+1,0,none⟩ x').setCell ⟨g+1+1,0,none⟩ y'):=by
 have h0:=heap_setCell_same W g 0 _ _ f0' o.f
 have h1:=heap_setCell_same _ g 1 _ _ f1' h0
 have a1:=heap_setCell_same _ (g+1) 0 _ _ x' (zw (i:=1) (x:=f1') (zw (i:=0) (x:=f0') o.a (show g+1≠g by omega)) (show g+1≠g by omega))
 have e1:=heap_setCell_same _ (g+2) 0 _ _ y' (zw (i:=0) (x:=x') (zw (i:=1) (x:=f1') (zw (i:=0) (x:=f0') o.e (show g+2≠g by omega)) (show g+2≠g by omega)) (show g+2≠g+1 by omega))
 refine⟨?_,?_,?_⟩
 ·refine zw (zw ?_ (by omega) _) (by omega) _;simpa using h1
 ·refine zw ?_ (by omega) _;simpa using a1
 ·simpa using e1
theorem set_out {W w:World} {g:Nat} (h:Below g w W) (f0' f1' x' y':Value):Below g w ((((W.setCell ⟨g,0,none⟩ f0').setCell ⟨g,1,none⟩ f1').setCell ⟨g+1,0,none⟩ x').setCell ⟨g+1+1,0,none⟩ y'):=
 (((h.setCell (p:=⟨g,0,none⟩) (Nat.le_refl _) _).setCell (p:=⟨g,1,none⟩) (Nat.le_refl _) _).setCell (p:=⟨g+1,0,none⟩) (Nat.le_succ _) _).setCell (p:=⟨g+1+1,0,none⟩) (show g≤g+1+1 by omega) _
theorem FileV.kept {D D':Nat→Prop} {w X:World} {v:Value} {f:List (List Int)×List RU} (h:FileV D w v f) (k:∀g,D g→D' g∧X.heap[g]? =w.heap[g]?) (kr:KR w X):FileV D' X v f:=by
 obtain⟨aK,cK,aR,cR,e,h1,cs,h2,h3,h4⟩:=h
 exact⟨aK,cK,aR,cR,e,h1.kept k,cs,h2,h3.kept k,RuC.mono (fun u q hq=>hq.kept k kr) _ _ h4⟩
theorem Tks.kr {w X:World} {B:Nat} {v:Value} {ts:List TN} (h:Tks w B v ts) (kr:KR w X) (ow:∀k,v.ownBlock=some k→X.heap[k]? =w.heap[k]?):Tks X B v ts:=by
 obtain⟨cs,own,tc⟩:=h
 refine⟨cs,⟨own.1,?_⟩,TkC.mono (fun u t p hv=> ?_) _ _ tc⟩
 ·rcases own.2 with hn|⟨g,cap,cur,e,hb,hg,rest⟩
  ·exact .inl hn
  ·exact .inr ⟨g,cap,cur,e,hb,(ow g (by rw[e];rfl)).trans hg,rest⟩
 ·obtain⟨a,c,e,hr,hy⟩:=hv
  obtain⟨hr',hy'⟩:=vK kr hr hy
  exact⟨a,c,e,hr',hy'⟩
theorem file_any (s:ByteArray) (l:List Int) (h:St s l) (hl:l.length≤100000000) (w:World):
  Calls Tryz.prog 36 #[.string s] w fun e w'=>FileR w l e w'∧Below w.heap.size w w':=by
 have CA:=zk (fun W=>all_any s l h W)
 have hmf:∀(fn:Fn) (first cap:Array Value) (w:World),(Instr.makeFunc fn first cap).run Tryz.prog w= .ok (.func fn first cap) w:=fun _ _ _ _=>rfl
 have B3:∀o1 o2 o3,Below w.heap.size w (((w.alloc o1).alloc o2).alloc o3):=fun o1 o2 o3=>((Below.new1 o1).alloc (by simp) o2).alloc (by simp;omega) o3
 have hsz:=h.size
 have HB:=zk h.2
 clear h
 go_enter_defers Tryz.func36,Tryz.ntmps36
 go_wp2_with fail
 refine(zq CA _).mono ?_
 rintro e w1 ⟨ar,b1⟩
 clear CA
 have O1:Out w.heap.size (.slice none 0 0) (.slice none 0 0) (.int .i64 0) (.int .i64 0) w1:=by
  refine⟨?_,?_,?_⟩
  ·rw[b1.block _ (by simp;omega)];exact zK (zK (heap_alloc_new _ _) _) _
  ·rw[b1.block _ (by simp)];have:=zK (heap_alloc_new (w.alloc (.cells #[.slice none 0 0,.slice none 0 0] 54)) (.cells #[.int .i64 0] 3)) (.cells #[.int .i64 0] 55);simpa using this
  ·rw[b1.block _ (by simp)];have:=heap_alloc_new ((w.alloc (.cells #[.slice none 0 0,.slice none 0 0] 54)).alloc (.cells #[.int .i64 0] 3)) (.cells #[.int .i64 0] 55);simpa using this
 obtain⟨⟨c0,c1⟩,z0,z1⟩:=yk O1.f
 have c2:w1.cell? ⟨w.heap.size+1,0,none⟩=some (.int .i64 0):=by simp[World.cell?,O1.a]
 have c3:w1.cell? ⟨w.heap.size+2,0,none⟩=some (.int .i64 0):=by simp[World.cell?,O1.e]
 have z2:w1.frozen? ⟨w.heap.size+1,0,none⟩=false:=by simp[World.frozen?,O1.a]
 have z3:w1.frozen? ⟨w.heap.size+2,0,none⟩=false:=by simp[World.frozen?,O1.e]
 have HO:=zk O1
 clear O1
 rcases ar with ⟨pa,er,ea,rfl⟩|⟨ts,v,ea,rfl,tk⟩
 ·have er0:(er !=0)=true:=by rcases allL_err ea with rfl|rfl<;>rfl
  have FIN:Hid (fileL l= .inl (pa,er)):=by show _=_;unfold fileL;rw[ea]
  clear ea
  go_wp2_with fail
  generalize hW2:(w1.setCell ⟨w.heap.size+1,0,none⟩ (.int .i64 (pa:Int))).setCell ⟨w.heap.size+1+1,0,none⟩ (.int .i64 er)=w2
  have O2:Out w.heap.size (.slice none 0 0) (.slice none 0 0) (.int .i64 (pa:Int)) (.int .i64 er) w2:=by
   have o:=zq HO
   have a1:=heap_setCell_same w1 (w.heap.size+1) 0 _ _ (.int .i64 (pa:Int)) o.a
   have e1:=heap_setCell_same _ (w.heap.size+2) 0 _ _ (.int .i64 er) (zw (i:=0) (x:= .int .i64 (pa:Int)) o.e (show w.heap.size+2≠w.heap.size+1 by omega))
   rw[←hW2]
   refine⟨zw (zw o.f (by omega) _) (by omega) _,?_,?_⟩
   ·refine zw ?_ (by omega) _;simpa using a1
   ·simpa using e1
  have B2:Below w.heap.size w w2:=by
   rw[←hW2]
   exact((zY (B3 _ _ _) b1).setCell (p:=⟨w.heap.size+1,0,none⟩) (Nat.le_succ _) _).setCell (p:=⟨w.heap.size+1+1,0,none⟩) (show w.heap.size≤w.heap.size+1+1 by omega) _
  clear hW2 HO c0 c1 c2 c3 z0 z1 z2 z3 b1
  obtain⟨⟨c0,c1⟩,z0,z1⟩:=yk O2.f
  have c2:w2.cell? ⟨w.heap.size+1,0,none⟩=some (.int .i64 (pa:Int)):=by simp[World.cell?,O2.a]
  have c3:w2.cell? ⟨w.heap.size+1+1,0,none⟩=some (.int .i64 er):=by have:=O2.e;simp[World.cell?,this]
  have z2:w2.frozen? ⟨w.heap.size+1,0,none⟩=false:=by simp[World.frozen?,O2.a]
  have z3:w2.frozen? ⟨w.heap.size+1+1,0,none⟩=false:=by have:=O2.e;simp[World.frozen?,this]
  have HO2:=zk O2
  clear O2
  go_region
  all_goals (go_wp2_with fail)
  all_goals (refine⟨_,res_out rfl rfl rfl ?_,.inl ⟨pa,er,zq FIN,rfl⟩,?_⟩)
  ·have o:=(zq HO2).set (.slice none 0 0) (.slice none 0 0) (.int .i64 (pa:Int)) (.int .i64 er)
   exact⟨o.f,o.a,o.e⟩
  ·exact(set_out B2 _ _ _ _).trans (zX (k:=1))
 ·obtain⟨q5,c5,rfl⟩:=tks_form tk
  have hlen:l.length≤3000:=by
   by_cases c:l.length≤3000
   ·exact c
   ·unfold kV at ea;rw[if_pos (by omega)]at ea;cases ea
  have hts:=all_bound (zq HB) ea
  have CN:=zk (fun W (k:Tks W (w.heap.size+3) (.slice q5 ts.length c5) ts) (hb:w.heap.size+3≤W.heap.size)=>newReader_l W (w.heap.size+3) q5 c5 ts l.length k hb hts (by omega) (fun x hx=>⟨allL_ok (zq HB) ea x hx,by have:=allL_at (zq HB) ea x hx;omega⟩))
  have EQ:Hid (fileL l=Yq (ts++[((-1,[],[]),l.length)])):=by show _=_;unfold fileL;rw[ea]
  have tk':Tks w1 (w.heap.size+3) (.slice q5 ts.length c5) ts:=by simpa using tk
  have hW1:w.heap.size+3≤w1.heap.size:=by have:=b1.size;simp at this;omega
  generalize hW2:(w1.setCell ⟨w.heap.size+1,0,none⟩ (.int .i64 (l.length:Int))).setCell ⟨w.heap.size+1+1,0,none⟩ (.int .i64 0)=w2
  have O2:Out w.heap.size (.slice none 0 0) (.slice none 0 0) (.int .i64 (l.length:Int)) (.int .i64 0) w2:=by
   have o:=zq HO
   have a1:=heap_setCell_same w1 (w.heap.size+1) 0 _ _ (.int .i64 (l.length:Int)) o.a
   have e1:=heap_setCell_same _ (w.heap.size+2) 0 _ _ (.int .i64 0) (zw (i:=0) (x:= .int .i64 (l.length:Int)) o.e (show w.heap.size+2≠w.heap.size+1 by omega))
   rw[←hW2]
   refine⟨zw (zw o.f (by omega) _) (by omega) _,?_,?_⟩
   ·refine zw ?_ (by omega) _;simpa using a1
   ·simpa using e1
  have B2:Below w.heap.size w w2:=by
   rw[←hW2]
   exact((zY (B3 _ _ _) b1).setCell (p:=⟨w.heap.size+1,0,none⟩) (Nat.le_succ _) _).setCell (p:=⟨w.heap.size+1+1,0,none⟩) (show w.heap.size≤w.heap.size+1+1 by omega) _
  have TK2:Hid (Tks w2 (w.heap.size+3) (.slice q5 ts.length c5) ts):=by
   have o:=zq HO
   have ne:∀k,k≠w.heap.size+1→k≠w.heap.size+2→w2.heap[k]? =w1.heap[k]? :=fun k h1 h2=>by
    rw[←hW2,Below.heap_setCell _ ⟨w.heap.size+1+1,0,none⟩ _ k h2,Below.heap_setCell _ ⟨w.heap.size+1,0,none⟩ _ k h1]
   refine Tks.kr tk' (fun g cs fr hk=> ?_) (fun k hk=> ?_)
   ·rw[ne g (yq hk o.a (by decide)) (yq hk o.e (by decide))];exact hk
   ·obtain⟨cs,own,-⟩:=tk'
    have:=(own.lt k hk).1
    exact ne k (by omega) (by omega)
  have hW2s:w.heap.size+3≤w2.heap.size:=by rw[←hW2];simp;exact hW1
  have HO2:=zk O2
  have HW2:=zk hW2
  clear tk ea tk' O2 hW2
  go_wp2_with fail
  rw[zq HW2]
  refine(zq CN _ (zq TK2) hW2s).mono ?_
  rintro e w3 ⟨b,G,m,rfl,hb3,rd3,mq3,E3,b3⟩
  have CF:=zk (file_l w3 b G (ts++[((-1,[],[]),l.length)]) m rd3 E3 (by rw[List.length_append,List.length_singleton];omega) mq3)
  rw[←zq EQ]at CF
  have O3:Out w.heap.size (.slice none 0 0) (.slice none 0 0) (.int .i64 (l.length:Int)) (.int .i64 0) w3:=by
   have o:=zq HO2
   exact⟨(b3.block _ (by omega)).trans o.f,(b3.block _ (by omega)).trans o.a,(b3.block _ (by omega)).trans o.e⟩
  have B3':Below w.heap.size w w3:=B2.trans (b3.mono (by omega))
  have s3:=b3.size
  clear CN EQ TK2 HW2 HO HO2 rd3 mq3 E3 c0 c1 c2 c3 z0 z1 z2 z3
  go_wp2_with fail
  refine(zq CF).mono ?_
  clear CF
  rintro e w4 (⟨v4,f4,ef,rfl,fv4,bu4⟩|⟨q4,y4,ef,rfl,bu4⟩)
  ·have FIN:=zk ef
   have O4:Out w.heap.size (.slice none 0 0) (.slice none 0 0) (.int .i64 (l.length:Int)) (.int .i64 0) w4:=⟨bu4.at O3.f (by omega),bu4.at O3.a (by omega),bu4.at O3.e (by omega)⟩
   have B4:Below w.heap.size w w4:=B3'.trans (bu4.below (by omega) (by omega))
   have HF:=zk fv4
   obtain⟨aK,cK,aR,cR,rfl,-,-⟩:=fv4
   obtain⟨⟨c0,c1⟩,z0,z1⟩:=yk O4.f
   have c2:w4.cell? ⟨w.heap.size+1,0,none⟩=some (.int .i64 (l.length:Int)):=by simp[World.cell?,O4.a]
   have c3:w4.cell? ⟨w.heap.size+1+1,0,none⟩=some (.int .i64 0):=by have:=O4.e;simp[World.cell?,this]
   have z2:w4.frozen? ⟨w.heap.size+1,0,none⟩=false:=by simp[World.frozen?,O4.a]
   have z3:w4.frozen? ⟨w.heap.size+1+1,0,none⟩=false:=by have:=O4.e;simp[World.frozen?,this]
   have s4:=bu4.size
   have HO4:=zk O4
   clear ef O4 O3
   go_wp2_with fail
   refine leaves_cons (f:=62) (args:= #[.pointer (some ⟨w.heap.size,0,none⟩),.pointer (some ⟨w.heap.size+1,0,none⟩),.pointer (some ⟨w.heap.size+1+1,0,none⟩)]) (by simp) (by simp[go_sem]) ?_
   refine(catch_idle _ _ _ _).mono ?_
   rintro e u' w5 ⟨rfl,rfl,b5⟩
   have OX:=(zq HO4).set (.slice aK f4.1.length cK) (.slice aR f4.2.length cR) (.int .i64 (l.length:Int)) (.int .i64 0)
   have BX:=set_out B4 (.slice aK f4.1.length cK) (.slice aR f4.2.length cR) (.int .i64 (l.length:Int)) (.int .i64 0)
   have hs5:=b5.size
   have sX:((((w4.setCell ⟨w.heap.size,0,none⟩ (.slice aK f4.1.length cK)).setCell ⟨w.heap.size,1,none⟩ (.slice aR f4.2.length cR)).setCell ⟨w.heap.size+1,0,none⟩ (.int .i64 (l.length:Int))).setCell ⟨w.heap.size+1+1,0,none⟩ (.int .i64 0)).heap.size=w4.heap.size:=by simp
   have nX:∀k,k≠w.heap.size→k≠w.heap.size+1→k≠w.heap.size+2→((((w4.setCell ⟨w.heap.size,0,none⟩ (.slice aK f4.1.length cK)).setCell ⟨w.heap.size,1,none⟩ (.slice aR f4.2.length cR)).setCell ⟨w.heap.size+1,0,none⟩ (.int .i64 (l.length:Int))).setCell ⟨w.heap.size+1+1,0,none⟩ (.int .i64 0)).heap[k]? =w4.heap[k]? :=fun k h1 h2 h3=>by
    rw[Below.heap_setCell _ ⟨w.heap.size+1+1,0,none⟩ _ k h3,Below.heap_setCell _ ⟨w.heap.size+1,0,none⟩ _ k h2,Below.heap_setCell _ ⟨w.heap.size,1,none⟩ _ k h1,Below.heap_setCell _ ⟨w.heap.size,0,none⟩ _ k h1]
   have KX:KR w4 w5:=by
    refine KR.then (fun g cs fr hk=> ?_) (KR.of b5)
    rw[nX g (yq hk (zq HO4).f (by decide)) (yq hk (zq HO4).a (by decide)) (yq hk (zq HO4).e (by decide))];exact hk
   have O5:Out w.heap.size (.slice aK f4.1.length cK) (.slice aR f4.2.length cR) (.int .i64 (l.length:Int)) (.int .i64 0) w5:=
    ⟨(b5.block _ (by rw[sX];omega)).trans OX.f,(b5.block _ (by rw[sX];omega)).trans OX.a,(b5.block _ (by rw[sX];omega)).trans OX.e⟩
   refine⟨_,res_out rfl rfl rfl O5,.inr ⟨_,f4,zq FIN,rfl,?_⟩,BX.trans (b5.mono (by rw[sX];omega))⟩
   refine(zq HF).kept (fun g hg=>⟨⟨by have:=hg.1;omega,by have:=hg.2;rw[sX]at hs5;omega⟩,?_⟩) KX
   obtain⟨g1,g2⟩:=hg
   rw[b5.block g (by rw[sX];exact g2),nX g (by omega) (by omega) (by omega)]
  ·have FIN:=zk ef
   have O4:Out w.heap.size (.slice none 0 0) (.slice none 0 0) (.int .i64 (l.length:Int)) (.int .i64 0) w4:=⟨bu4.at O3.f (by omega),bu4.at O3.a (by omega),bu4.at O3.e (by omega)⟩
   have B4:Below w.heap.size w w4:=B3'.trans (bu4.below (by omega) (by omega))
   clear ef O3
   unfold xv
   go_wp2_with fail
   refine leaves_cons (f:=62) (args:= #[.pointer (some ⟨w.heap.size,0,none⟩),.pointer (some ⟨w.heap.size+1,0,none⟩),.pointer (some ⟨w.heap.size+1+1,0,none⟩)]) (by simp) (by simp[go_sem]) ?_
   refine(catch_wrong w.heap.size _ _ _ _ (q4:Int) y4 [] w4 O4).mono ?_
   rintro e u' w5 ⟨rfl,rfl,O5,b5⟩
   exact⟨_,res_out rfl rfl rfl O5,.inl ⟨q4,y4,zq FIN,rfl⟩,B4.trans b5⟩
end Go.Proofs.YtcblkmlcbedomaaGreatDoor.R
namespace Go.Proofs.YtcblkmlcbedomaaGreatDoor.F
open Go.RowKit Go.Proofs.YtcblkmlcbedomaaGreatDoor.T Go.Proofs.YtcblkmlcbedomaaGreatDoor.R
theorem str_info:(Tryz.prog.info? 9).map (fun i=>(i.zero,i.size,i.bytes))=some (some (.string ⟨#[]⟩),1,16):=by kernel_rfl
theorem cloneStr_l {D:Nat→Prop} (a:Option Addr) (n c:Nat) (ks:List (List Int)) (w:World) (h:Ss D w a n c ks) (hs:n≤1000000):
  Calls Tryz.prog 67 #[.slice a n c] w fun e w'=>∃a' c',e= .returned (.slice a' n c')∧Ss (fun g=>w.heap.size≤g∧g<w'.heap.size) w' a' n c' ks∧Below w.heap.size w w':=by
 obtain⟨h1,h2,h3,h4,h5⟩:=h
 unfold maxLen at h3
 cases a with
 |none=>
  have hk:ks=[]:=by
   cases ks with
   |nil=>rfl
   |cons k ks=>
    obtain⟨g,off,e,-⟩:=h5 0 k rfl
    cases e
  subst hk
  simp only[List.length_nil]at h1
  subst h1
  clear h4 h5
  have heq:∀W,(binOp .eql 23 (.slice none 0 c) (.slice none 0 0)).run Tryz.prog W= .ok (.bool true) W:=fun W=>by kernel_rfl
  go_enter Tryz.func67,Tryz.ntmps67
  go_wp2_with fail
  go_ret
  exact⟨none,0,rfl,⟨rfl,Nat.le_refl _,Nat.zero_le _,fun k hk=>(by cases hk),fun j k hj=>(by simp at hj)⟩,Below.refl _ _⟩
 |some ad=>
  obtain⟨i0,hi0,hz0,hz1,hz2⟩:=info_parts str_info
  have HN:∀o,∀(j:Nat) (u:Value),(strC ks)[j]? =some u→(w.alloc o).cell? (ad.add j)=some u:=by
   intro o j u hu
   unfold strC at hu
   rw[List.getElem?_map]at hu
   cases hk:ks[j]? with
   |none=>rw[hk]at hu;cases hu
   |some k=>
    rw[hk]at hu
    simp only[Option.map_some,Option.some.injEq]at hu
    subst hu
    obtain⟨g,off,e,-,hc⟩:=h5 j k hk
    injection e with e
    subst e
    rw[Addr.add_lit,World.cell?_of_block ((Below.new1 o).block _ (zJ hc))]
    exact hc
  have heq:∀W,(binOp .eql 23 (.slice (some ad) n c) (.slice none 0 0)).run Tryz.prog W= .ok (.bool false) W:=fun W=>by kernel_rfl
  have H1:∀u∈strC ks,u.oneCell'=true:=by
   intro u hu
   unfold strC at hu
   obtain⟨k,-,rfl⟩:=List.mem_map.1 hu
   rfl
  have H4:=zk h4
  have hcl:(strC ks).length=n*1:=by unfold strC;rw[List.length_map,h1];omega
  have HL:=zk h1
  clear h1 h4 h5
  have HO:∀w:World,(w.alloc (.cells #[] 9)).ownsRow w.heap.size 9 1 (.slice (some ⟨w.heap.size,0,none⟩) 0 0) 0 []:=fun w=>World.ownsRow_made w #[] 0 (Nat.le_refl _) (Nat.zero_le _) rfl
  go_enter Tryz.func67,Tryz.ntmps67
  go_wp2_with (at_builtin;refine wpList_append_own _ rfl _ _ 23 rfl w.heap.size 9 i0 _ 1 16 Tryz.underlying23 hi0 hz0 hz1 hz2 rfl (by omega) _ _ _ rfl (HO w) ad n c (strC ks) rfl hcl (HN _) H1 (by unfold maxLen;omega) (by omega) (by simp) ?_;intro v' w6 hown1 hgrow hnil)
  go_ret
  rw[Nat.zero_add,List.nil_append]at hown1
  have hg2:(w.alloc (.cells #[] 9)).grownBy w6 (some w.heap.size):=hgrow
  have B6:Below w.heap.size w w6:=(Below.new1 _).grown hg2 (by simp) (fun k hk=>by injection hk;omega)
  obtain⟨a',c',rfl⟩:=xu hown1
  exact⟨a',c',rfl,own_ss hown1 (zq HL).symm (zq H4),B6⟩
theorem newMaker_l (w:World) (D:Nat→Prop):
  Calls Tryz.prog 65 #[] w fun e w'=>∃b m,e= .returned (.pointer (some ⟨b,0,none⟩))∧MakV D w' w.heap.size b m [] 0 (.slice none 0 0) ⟨[],2147483647,0,0⟩∧Below w.heap.size w w':=by
 have hmf:∀(fn:Fn) (first cap:Array Value) (w:World),(Instr.makeFunc fn first cap).run Tryz.prog w= .ok (.func fn first cap) w:=fun _ _ _ _=>rfl
 have hmm:= @run_makeMap Tryz.prog
 go_enter Tryz.func65,Tryz.ntmps65
 go_wp2_with fail
 go_ret
 have h0:=heap_alloc_new (w.alloc (.map #[] 0)) (.cells (qw (.slice none 0 0) w.heap.size (w.heap.size+1) 0 ⟨[],2147483647,0,0⟩) 111)
 rw[World.size_alloc]at h0
 exact⟨w.heap.size+1,w.heap.size,rfl,⟨Nat.le_succ _,Nat.le_refl _,⟨Int.le_refl _,by omega⟩,⟨by simp,by simp⟩,h0,⟨Nat.zero_le _,[],World.ownsRow_nil _ _ _ _,rfl⟩,(Nm.new w).later (Below.new1 _)⟩,(Below.new1 _).alloc (by simp) _⟩
def GramV (D:Nat→Prop) (w:World) (v:Value) (g:GR):Prop:=
 ∃a c cs aK cK,v= .agg #[.slice a g.1.length c,.slice aK g.2.length cK]∧RowT 41 D w a g.1.length c cs∧PrC D w g.1 cs∧Ss D w aK g.2.length cK g.2
def OfR (w:World) (r:Sum (Int×Int) GR) (e:Ending) (w':World):Prop:=
 (∃q y,r= .inl (q,y)∧e= .returned (.tuple #[.agg #[.slice none 0 0,.slice none 0 0],.int .i64 q,.int .i64 y]))∨
 (∃g v,r= .inr g∧e= .returned (.tuple #[v,.int .i64 0,.int .i64 0])∧GramV (New w w') w' v g)
theorem res_of {tmps:Array Value} {g:Nat} {x y f0 f1:Value} (h2:tmps.getD 2 undef= .pointer (some ⟨g,0,none⟩)) (h3:tmps.getD 3 undef=x) (h4:tmps.getD 4 undef=y) {X:World} (o:X.heap[g]? =some (.cells #[f0,f1] 25)):
  (results Tryz.f37 tmps).run Tryz.prog X= .ok (.tuple #[.agg #[f0,f1],x,y]) X:=by
 obtain⟨⟨c0,c1⟩,-⟩:=yk o
 have p2:tmps[2]?.getD undef= .pointer (some ⟨g,0,none⟩):=by rw[←h2];simp[Array.getD_eq_getD_getElem?]
 have p3:tmps[3]?.getD undef=x:=by rw[←h3];simp[Array.getD_eq_getD_getElem?]
 have p4:tmps[4]?.getD undef=y:=by rw[←h4];simp[Array.getD_eq_getD_getElem?]
 simp[results,Tryz.results37,go_sem,p2,p3,p4,c0,c1]
theorem set2_at {W:World} {g:Nat} {y0 y1:Value} {t:TypeId} (h:W.heap[g]? =some (.cells #[y0,y1] t)) (x0 x1:Value):((W.setCell ⟨g,0,none⟩ x0).setCell ⟨g,1,none⟩ x1).heap[g]? =some (.cells #[x0,x1] t):=by
 have h0:=heap_setCell_same W g 0 _ _ x0 h
 have h1:=heap_setCell_same _ g 1 _ _ x1 h0
 rw[h1];simp
theorem made_gram {D D':Nat→Prop} {w X:World} {B:Nat} {v:Value} {l:List PRD} (h:MadeV D w B v l) (hD:∀g,B≤g→D g) (k:Kp D D' w X) (hk:∀g o,D g→w.heap[g]? =some o→D' g∧X.heap[g]? =some o):∃a c cs,v= .slice a l.length c∧RowT 41 D' X a l.length c cs∧PrC D' X l cs:=by
 obtain⟨-,cs,own,hp⟩:=h
 obtain⟨a,c,rfl⟩:=xu own
 exact⟨a,c,cs,rfl,(RowT.ofOwn own (D:=D) (fun g hg=>hD g (own.lt g hg).1)).kept (fun g cur fr hd hg=>hk g _ hd hg),PrC.kp k _ _ hp⟩
theorem of_at (n:Nat) {D:Nat→Prop} {w:World} (aK:Option Addr) (cK:Nat) (a:Option Addr) (cap:Nat) (K:List (List Int)) (L:List RU) (hK:Ss D w aK K.length cK K) (hr:RsV w.heap.size n w a L.length cap L) (hD:∀g,D g→g<w.heap.size) (hKs:K.length≤1000000) (hN:∀u∈L,u.2.2.2.1.length≤1000000) (hS:∀u∈L,smP n u.2.2.1):
  Calls Tryz.prog 37 #[.agg #[.slice aK K.length cK,.slice a L.length cap]] w fun e w'=>OfR w (flatL n (K,L)) e w'∧Below w.heap.size w w':=by
 have B2:∀o1 o2,Below w.heap.size w ((w.alloc o1).alloc o2):=fun o1 o2=>(Below.new1 o1).alloc (by simp) o2
 have CN:=zk (fun W=>newMaker_l W (fun k=>W.heap.size≤k))
 have CR:=zk (fun(W w1:World) (b m:Nat) (bW:Below w.heap.size w W) (b1:Below W.heap.size W w1) (hm:MakV (fun k=>W.heap.size≤k) w1 W.heap.size b m [] 0 (.slice none 0 0) ⟨[],2147483647,0,0⟩)=>frules_l (n:=n) a L.length cap L b1.size (fun k hk=>Nat.le_trans b1.size hk) hm ⟨hr.hlen,hr.hsmall,hr.hcap,by
  obtain⟨cs,r5,rc⟩:=hr.hcs
  have bb:=zY bW b1
  exact⟨cs,r5.kept (fun g hg=>⟨Nat.lt_of_lt_of_le hg bW.size,bb.block g hg⟩),RuC.mono (fun u q hq=>hq.kept (fun g hg=>⟨Nat.lt_of_lt_of_le hg bW.size,bb.block g hg⟩) (KR.of bb)) _ _ rc⟩⟩ hN hS)
 have CK:=zk (fun W (bW:Below w.heap.size w W)=>cloneStr_l (D:=D) aK K.length cK K W (hK.kept (fun g hg=>⟨hg,bW.block g (hD g hg)⟩)) hKs)
 clear hK hr hN hS hD hKs
 have HFL:=zk (show flatL n (K,L)=if (Zu n L).why=0 then .inr ((Zu n L).made,K)else .inl ((Zu n L).pl,(Zu n L).why) from rfl)
 generalize Zu n L=r at*
 generalize hKL:K.length=KL at*
 generalize L.length=RL at*
 have HKL:=zk hKL
 clear hKL
 generalize hFF:flatL n (K,L)=ff at*
 clear hFF
 go_enter Tryz.func37,Tryz.ntmps37
 go_wp2_with fail
 refine(zq CN _).mono ?_
 clear CN
 rintro e w1 ⟨b,m,rfl,mk1,b1⟩
 have BW:=B2 (.cells #[.slice aK KL cK,.slice a RL cap] 54) (.cells #[.slice none 0 0,.slice none 0 0] 25)
 have P0:((w.alloc (.cells #[.slice aK KL cK,.slice a RL cap] 54)).alloc (.cells #[.slice none 0 0,.slice none 0 0] 25)).heap[w.heap.size]? =some (.cells #[.slice aK KL cK,.slice a RL cap] 54):=zK (heap_alloc_new w _) _
 have P1:((w.alloc (.cells #[.slice aK KL cK,.slice a RL cap] 54)).alloc (.cells #[.slice none 0 0,.slice none 0 0] 25)).heap[w.heap.size+1]? =some (.cells #[.slice none 0 0,.slice none 0 0] 25):=by have:=heap_alloc_new (w.alloc (.cells #[.slice aK KL cK,.slice a RL cap] 54)) (.cells #[.slice none 0 0,.slice none 0 0] 25);rw[World.size_alloc]at this;exact this
 have sW:((w.alloc (.cells #[.slice aK KL cK,.slice a RL cap] 54)).alloc (.cells #[.slice none 0 0,.slice none 0 0] 25)).heap.size=w.heap.size+2:=by simp
 generalize ((w.alloc (.cells #[.slice aK KL cK,.slice a RL cap] 54)).alloc (.cells #[.slice none 0 0,.slice none 0 0] 25))=W at*
 have P0:=(b1.block _ (by omega)).trans P0
 have P1:=(b1.block _ (by omega)).trans P1
 have hb:=mk1.hB
 have hb1:=mk1.lt
 have CR2:=zk (zq CR W w1 b m BW b1 mk1)
 have HB1:=zk b1
 have HM1:=zk mk1
 have s1:=b1.size
 clear CR mk1 b1
 obtain⟨⟨x0,x1⟩,-⟩:=yk P0
 go_wp2_with fail
 refine(zq CR2).mono ?_
 clear CR2
 rintro e w2 ⟨rfl,⟨v2,ns2,mk2⟩,f2⟩
 have P0:=(f2.1.block _ (by omega)).trans P0
 have P1:=(f2.1.block _ (by omega)).trans P1
 clear x0 x1
 obtain⟨⟨x0,x1⟩,-⟩:=yk P0
 obtain⟨⟨y0,y1⟩,z0,z1⟩:=yk P1
 obtain⟨c0,-,-,-,c13,c14,-⟩:=yV mk2.cells
 have hb2:=mk2.lt
 have BB:Below w.heap.size w w2:=zY BW ((zq HB1).trans f2.1)
 have HBB:=zk BB
 have s2:=f2.2.2
 obtain⟨ma,mc,rfl⟩:=mk2.made.form
 have HMD:=zk mk2.made
 have HMC:=zk mk2.cells
 have HF2:=zk f2
 clear mk2 f2 HM1 BB BW
 by_cases hw:r.why=0
 ·have hbb:(r.why !=0)=false:=by rw[hw];rfl
  have FIN:Hid (ff= .inr (r.made,K)):=by have:=zq HFL;rw[if_pos hw]at this;exact this
  clear hw HFL
  go_wp2_with fail
  clear c13 c14
  refine wp_region_held_drew (S:=(fun w'=>w'.cell? ⟨b,0,none⟩=some (.slice ma r.made.length mc)∧w'.cell? ⟨w.heap.size,0,none⟩=some (.slice aK KL cK))) (by kernel_rfl) (⟨c0,x0⟩) (fun hHeld=> ?_)
  refine tkh 0 ?_ rfl (by kernel_rfl) (fun _ _ _ h=>h) ?_ (by assumption) ?_
  rotate_left
  ·intro w hSw;obtain⟨k1,k2⟩:=hSw;(try clear hSw);go_simp;(try with_reducible rfl)
  try simp only[pls]
  refine tkh 1 ?_ rfl (by kernel_rfl) (fun _ _ _ h=>h) ?_ (by assumption) ?_
  rotate_left
  ·intro w hSw;obtain⟨k1,k2⟩:=hSw;(try clear hSw);go_simp;(try with_reducible rfl)
  try simp only[pls]
  refine tkh 2 ?_ rfl (by kernel_rfl) (fun _ _ _ h=>h) ?_ (by assumption) ?_
  rotate_left
  ·intro w hSw;obtain⟨k1,k2⟩:=hSw;(try clear hSw);go_simp;(try with_reducible rfl)
  try simp only[pls]
  refine tkh 3 ?_ rfl (by kernel_rfl) (fun _ _ _ h=>h) ?_ (by assumption) ?_
  rotate_left
  ·intro w hSw;obtain⟨k1,k2⟩:=hSw;(try clear hSw);go_simp;(try with_reducible rfl)
  try simp only[pls]
  refine tkh 4 ?_ rfl (by kernel_rfl) (fun _ _ _ h=>h) ?_ (by assumption) ?_
  rotate_left
  ·intro w hSw;obtain⟨k1,k2⟩:=hSw;(try clear hSw);go_simp;(try with_reducible rfl)
  try simp only[pls]
  refine tkh 5 ?_ rfl (by kernel_rfl) (fun _ _ _ h=>h) ?_ (by assumption) ?_
  rotate_left
  ·intro w hSw;obtain⟨k1,k2⟩:=hSw;(try clear hSw);go_simp;(try with_reducible rfl)
  try simp only[pls]
  refine wpAnyH_ready (rs:=[6]) (by kernel_rfl) (by simp) ?_
  refine AllReadyH.cons rfl (fun K hK=> ?_) AllReadyH.nil
  go_simp
  refine(zq CK _ (zY (zq HBB) (zX (k:=1)))).mono ?_
  clear CK
  rintro e w3 ⟨a3,c3,rfl,ss3,b3⟩
  have b3:Below w2.heap.size w2 w3:=zY (w1:=w2.drew) (zX (k:=1)) b3
  have s3:=b3.size
  have hs2D:w2.drew.heap.size=w2.heap.size:=rfl
  have P1:=(b3.block _ (show w.heap.size+1<w2.heap.size by omega)).trans P1
  have c0:=(b3.cell (p:=⟨b,0,none⟩) hb2).trans c0
  have x0:=(b3.cell (p:=⟨w.heap.size,0,none⟩) (show w.heap.size<w2.heap.size by omega)).trans x0
  clear y0 y1 z0 z1
  obtain⟨⟨y0,y1⟩,z0,z1⟩:=yk P1
  have HB3:=zk b3
  have HS3:=zk ss3
  have PE:=set2_at P1 (.slice ma r.made.length mc) (.slice a3 KL c3)
  have BE:Below w2.heap.size w2 w3∧Below w.heap.size w ((w3.setCell ⟨w.heap.size+1,0,none⟩ (.slice ma r.made.length mc)).setCell ⟨w.heap.size+1,1,none⟩ (.slice a3 KL c3)):=⟨b3,((zY (zq HBB) b3).setCell (p:=⟨w.heap.size+1,0,none⟩) (Nat.le_succ _) _).setCell (p:=⟨w.heap.size+1,1,none⟩) (Nat.le_succ _) _⟩
  have E0:((w3.setCell ⟨w.heap.size+1,0,none⟩ (.slice ma r.made.length mc)).setCell ⟨w.heap.size+1,1,none⟩ (.slice a3 KL c3)).cell? ⟨b,0,none⟩=some (.slice ma r.made.length mc):=(World.cell?_of_block ((Below.heap_setCell _ ⟨w.heap.size+1,1,none⟩ _ b (show b≠w.heap.size+1 by omega)).trans (Below.heap_setCell _ ⟨w.heap.size+1,0,none⟩ _ b (show b≠w.heap.size+1 by omega)))).trans c0
  have E1:((w3.setCell ⟨w.heap.size+1,0,none⟩ (.slice ma r.made.length mc)).setCell ⟨w.heap.size+1,1,none⟩ (.slice a3 KL c3)).cell? ⟨w.heap.size,0,none⟩=some (.slice aK KL cK):=(World.cell?_of_block ((Below.heap_setCell _ ⟨w.heap.size+1,1,none⟩ _ w.heap.size (show w.heap.size≠w.heap.size+1 by omega)).trans (Below.heap_setCell _ ⟨w.heap.size+1,0,none⟩ _ w.heap.size (show w.heap.size≠w.heap.size+1 by omega)))).trans x0
  clear b3 ss3
  go_wp2_with fail
  refine hK.out _ _ (⟨c0,x0⟩) (fun hHeld=> ?_)
  clear hK K
  try simp only[pls]
  refine tkh 7 ?_ rfl (by kernel_rfl) (fun _ _ _ h=>h) ?_ (by assumption) ?_
  rotate_left
  ·intro w hSw;skip;(try clear hSw);go_simp;(try with_reducible rfl)
  try simp only[pls]
  refine wpAnyH_ready (rs:=[8]) (by kernel_rfl) (by simp) ?_
  refine AllReadyH.cons rfl (fun K hK=> ?_) AllReadyH.nil
  go_simp
  refine hK.out _ _ (⟨E0,E1⟩) (fun hHeld=> ?_)
  clear hK K
  try simp only[pls]
  refine tkh 9 ?_ rfl (by kernel_rfl) (fun _ _ _ h=>h) ?_ (by assumption) ?_
  rotate_left
  ·intro w hSw;skip;(try clear hSw);go_simp;(try with_reducible rfl)
  try simp only[pls]
  refine tkh 10 ?_ rfl (by kernel_rfl) (fun _ _ _ h=>h) ?_ (by assumption) ?_
  rotate_left
  ·intro w hSw;skip;(try clear hSw);go_simp;(try with_reducible rfl)
  try simp only[pls]
  refine wpAnyH_done (by kernel_rfl) ?_ _
  clear E0 E1 hHeld
  go_wp2_with fail
  (try simp only[Exit.inBlock,Exit.then])
  refine bodyPost_ret (v:= .tuple #[.agg #[.slice ma r.made.length mc,.slice a3 KL c3],.int .i64 0,.int .i64 0]) (res_of rfl rfl rfl PE) rfl ⟨.inr ⟨(r.made,K),_,zq FIN,rfl,?_⟩,BE.2⟩
  have oth:∀g o,g≠w.heap.size+1→w3.heap[g]? =some o→((w3.setCell ⟨w.heap.size+1,0,none⟩ (.slice ma r.made.length mc)).setCell ⟨w.heap.size+1,1,none⟩ (.slice a3 KL c3)).heap[g]? =some o:=fun g o hg ho=>zw (zw ho hg _) hg _
  have sE:((w3.setCell ⟨w.heap.size+1,0,none⟩ (.slice ma r.made.length mc)).setCell ⟨w.heap.size+1,1,none⟩ (.slice a3 KL c3)).heap.size=w3.heap.size:=by simp
  have key:∀g o,W.heap.size≤g→w2.heap[g]? =some o→New w ((w3.setCell ⟨w.heap.size+1,0,none⟩ (.slice ma r.made.length mc)).setCell ⟨w.heap.size+1,1,none⟩ (.slice a3 KL c3)) g∧((w3.setCell ⟨w.heap.size+1,0,none⟩ (.slice ma r.made.length mc)).setCell ⟨w.heap.size+1,1,none⟩ (.slice a3 KL c3)).heap[g]? =some o:=fun g o hg ho=>⟨⟨by omega,by rw[sE];have:=(Array.getElem?_eq_some_iff.1 ho).1;omega⟩,oth g o (by omega) (((zq HB3).block g (Array.getElem?_eq_some_iff.1 ho).1).trans ho)⟩
  have krE:KR w2 ((w3.setCell ⟨w.heap.size+1,0,none⟩ (.slice ma r.made.length mc)).setCell ⟨w.heap.size+1,1,none⟩ (.slice a3 KL c3)):=fun g cs fr hg=>oth g _ (fun e=>by subst e;have:=((zq HB3).block _ (Array.getElem?_eq_some_iff.1 hg).1).trans hg;rw[P1]at this;injection this with this;injection this with _ this;exact absurd this (by decide)) (((zq HB3).block g (Array.getElem?_eq_some_iff.1 hg).1).trans hg)
  obtain⟨ag,cg,cs,eg,rt,pc⟩:=made_gram (zq HMD) (fun g hg=>hg) ⟨krE,fun g cur fr t _ hd hg=>key g _ hd hg⟩ (fun g o hd hg=>key g o hd hg)
  injection eg with e1 e2 e3
  subst e1
  subst e3
  refine⟨_,_,cs,a3,c3,by show Value.agg _=Value.agg _;rw[zq HKL],rt,pc,?_⟩
  show Ss _ _ a3 K.length c3 K
  rw[zq HKL]
  have lowW:w.heap.size+2≤w2.heap.size:=by omega
  refine(zq HS3).kept (fun g hg=> ?_)
  have e9:w.heap.size+2≤g:=Nat.le_trans lowW hg.1
  refine⟨⟨by omega,by rw[sE];exact hg.2⟩,?_⟩
  rw[Below.heap_setCell _ ⟨w.heap.size+1,1,none⟩ _ g (show g≠w.heap.size+1 by omega),Below.heap_setCell _ ⟨w.heap.size+1,0,none⟩ _ g (show g≠w.heap.size+1 by omega)]
 ·have hbb:(r.why !=0)=true:=by rw[bne_iff_ne];exact hw
  have FIN:Hid (ff= .inl (r.pl,r.why)):=by have:=zq HFL;rw[if_neg hw]at this;exact this
  clear hw HFL HMD CK
  have PE:=set2_at (W:=w2.drew) P1 (.slice none 0 0) (.slice none 0 0)
  have BE:Below w.heap.size w ((w2.drew.setCell ⟨w.heap.size+1,0,none⟩ (.slice none 0 0)).setCell ⟨w.heap.size+1,1,none⟩ (.slice none 0 0)):=((zY (zq HBB) (zX (k:=1))).setCell (p:=⟨w.heap.size+1,0,none⟩) (Nat.le_succ _) _).setCell (p:=⟨w.heap.size+1,1,none⟩) (Nat.le_succ _) _
  have E13:((w2.drew.setCell ⟨w.heap.size+1,0,none⟩ (.slice none 0 0)).setCell ⟨w.heap.size+1,1,none⟩ (.slice none 0 0)).cell? ⟨b,13,none⟩=some (.int .i64 r.pl):=by have h1:=zw (i:=1) (zw (i:=0) (show w2.drew.heap[b]? =_ from zq HMC) (show b≠w.heap.size+1 by omega) (.slice none 0 0)) (show b≠w.heap.size+1 by omega) (.slice none 0 0);exact(yV h1).2.2.2.2.1
  have E14:((w2.drew.setCell ⟨w.heap.size+1,0,none⟩ (.slice none 0 0)).setCell ⟨w.heap.size+1,1,none⟩ (.slice none 0 0)).cell? ⟨b,14,none⟩=some (.int .i64 r.why):=by have h1:=zw (i:=1) (zw (i:=0) (show w2.drew.heap[b]? =_ from zq HMC) (show b≠w.heap.size+1 by omega) (.slice none 0 0)) (show b≠w.heap.size+1 by omega) (.slice none 0 0);exact(yV h1).2.2.2.2.2.1
  go_wp2_with fail
  refine wp_region_held_drew (S:=(fun w'=>w'.cell? ⟨b,13,none⟩=some (.int .i64 r.pl)∧w'.cell? ⟨b,14,none⟩=some (.int .i64 r.why))) (by kernel_rfl) (⟨c13,c14⟩) (fun hHeld=> ?_)
  refine tkh 0 ?_ rfl (by kernel_rfl) (fun _ _ _ h=>h) ?_ (by assumption) ?_
  rotate_left
  ·intro w hSw;obtain⟨k1,k2⟩:=hSw;(try clear hSw);go_simp;(try with_reducible rfl)
  try simp only[pls]
  refine tkh 1 ?_ rfl (by kernel_rfl) (fun _ _ _ h=>h) ?_ (by assumption) ?_
  rotate_left
  ·intro w hSw;obtain⟨k1,k2⟩:=hSw;(try clear hSw);go_simp;(try with_reducible rfl)
  try simp only[pls]
  refine tkh 2 ?_ rfl (by kernel_rfl) (fun _ _ _ h=>h) ?_ (by assumption) ?_
  rotate_left
  ·intro w hSw;obtain⟨k1,k2⟩:=hSw;(try clear hSw);go_simp;(try with_reducible rfl)
  try simp only[pls]
  refine tkh 3 ?_ rfl (by kernel_rfl) (fun _ _ _ h=>h) ?_ (by assumption) ?_
  rotate_left
  ·intro w hSw;obtain⟨k1,k2⟩:=hSw;(try clear hSw);go_simp;(try with_reducible rfl)
  try simp only[pls]
  refine tkh 4 ?_ rfl (by kernel_rfl) (fun _ _ _ h=>h) ?_ (by assumption) ?_
  rotate_left
  ·intro w hSw;obtain⟨k1,k2⟩:=hSw;(try clear hSw);go_simp;(try with_reducible rfl)
  try simp only[pls]
  refine tkh 5 ?_ rfl (by kernel_rfl) (fun _ _ _ h=>h) ?_ (by assumption) ?_
  rotate_left
  ·intro w hSw;obtain⟨k1,k2⟩:=hSw;(try clear hSw);go_simp;(try with_reducible rfl)
  try simp only[pls]
  refine tkh 6 ?_ rfl (by kernel_rfl) (fun _ _ _ h=>h) ?_ (by assumption) ?_
  rotate_left
  ·intro w hSw;obtain⟨k1,k2⟩:=hSw;(try clear hSw);go_simp;(try with_reducible rfl)
  try simp only[pls]
  refine tkh 7 ?_ rfl (by kernel_rfl) (fun _ _ _ h=>h) ?_ (by assumption) ?_
  rotate_left
  ·intro w hSw;obtain⟨k1,k2⟩:=hSw;(try clear hSw);go_simp;(try with_reducible rfl)
  try simp only[pls]
  refine tkh 8 ?_ rfl (by kernel_rfl) (fun _ _ _ h=>h) ?_ (by assumption) ?_
  rotate_left
  ·intro w hSw;obtain⟨k1,k2⟩:=hSw;(try clear hSw);go_simp;(try with_reducible rfl)
  try simp only[pls]
  refine wpAnyH_ready (rs:=[9]) (by kernel_rfl) (by simp) ?_
  refine AllReadyH.cons rfl (fun K hK=> ?_) AllReadyH.nil
  go_simp
  refine hK.out _ _ (⟨E13,E14⟩) (fun hHeld=> ?_)
  clear hK K
  try simp only[pls]
  refine tkh 10 ?_ rfl (by kernel_rfl) (fun _ _ _ h=>h) ?_ (by assumption) ?_
  rotate_left
  ·intro w hSw;skip;(try clear hSw);go_simp;(try with_reducible rfl)
  try simp only[pls]
  refine tkh 11 ?_ rfl (by kernel_rfl) (fun _ _ _ h=>h) ?_ (by assumption) ?_
  rotate_left
  ·intro w hSw;skip;(try clear hSw);go_simp;(try with_reducible rfl)
  try simp only[pls]
  refine wpAnyH_done (by kernel_rfl) ?_ _
  clear E13 E14 hHeld c13 c14
  go_wp2_with fail
  (try simp only[Exit.inBlock,Exit.then])
  refine bodyPost_ret (v:= .tuple #[.agg #[.slice none 0 0,.slice none 0 0],.int .i64 r.pl,.int .i64 r.why]) (res_of rfl rfl rfl PE) rfl ⟨.inl ⟨r.pl,r.why,zq FIN,rfl⟩,BE⟩
theorem PrC.at2 {D:Nat→Prop} {w:World}:∀(l:List PRD) (cs:List Value) (j:Nat),PrC D w l cs→j<l.length→∃c0 c2 p,cs[3*j]? =some c0∧cs[3*j+1]? =some (.int .i64 p.2.1)∧cs[3*j+2]? =some c2∧AltV D w c0 p.1∧NotV w c2 p.2.2∧l.drop j=p::l.drop (j+1)∧p∈l:=by
 intro l
 induction l with
 |nil=>intro cs j _ hj;simp at hj
 |cons x l ih=>
  intro cs j h hj
  obtain⟨c0,c2,cs',rfl,ha,hn,ht⟩:=h
  cases j with
  |zero=>exact⟨c0,c2,x,rfl,rfl,rfl,ha,hn,rfl,List.mem_cons_self ..⟩
  |succ j=>
   obtain⟨d0,d2,p,h0,h1,h2,ha',hn',hd,hm⟩:=ih cs' j ht (by simp at hj;omega)
   refine⟨d0,d2,p,?_,?_,?_,ha',hn',by simpa using hd,List.mem_cons_of_mem _ hm⟩
   ·rw[show 3*(j+1)=3*j+1+1+1 by omega];simpa using h0
   ·rw[show 3*(j+1)+1=3*j+1+1+1+1 by omega];simpa using h1
   ·rw[show 3*(j+1)+2=3*j+2+1+1+1 by omega];simpa using h2
theorem prods_at {D:Nat→Prop} {w:World} {a:Option Addr} {len cap:Nat} {cs:List Value} {l:List PRD} (hr:RowT 41 D w a len cap cs) (hp:PrC D w l cs) (j:Nat) (hj:j<l.length):∃g off x0 n0 k0 x2 n2 k2 p,a=some ⟨g,off,none⟩∧g<w.heap.size∧w.cell? ⟨g,off+3*j,none⟩=some (.slice x0 n0 k0)∧w.cell? ⟨g,off+3*j+1,none⟩=some (.int .i64 p.2.1)∧w.cell? ⟨g,off+3*j+2,none⟩=some (.slice x2 n2 k2)∧AltV D w (.slice x0 n0 k0) p.1∧NotV w (.slice x2 n2 k2) p.2.2∧l.drop j=p::l.drop (j+1)∧p∈l:=by
 obtain⟨c0,c2,p,h0,h1,h2,ha,hn,hd,hm⟩:=PrC.at2 l cs j hp hj
 obtain⟨g,off,hA,-,q0⟩:=hr.cell h0
 have key:∀i u,cs[3*j+i]? =some u→w.cell? ⟨g,off+3*j+i,none⟩=some u:=fun i u hu=>by
  obtain⟨g',off',ha',-,q⟩:=hr.cell hu
  rw[hA]at ha'
  injection ha' with ha'
  injection ha' with e1 e2
  subst e1;subst e2
  rw[Nat.add_assoc];exact q
 obtain⟨xa,xc,xs,e0,-⟩:=id ha
 obtain⟨ya,yc,e2,-⟩:=id hn
 subst e0;subst e2
 exact⟨g,off,_,_,_,_,_,_,p,hA,zJ q0,q0,key 1 _ h1,key 2 _ h2,ha,hn,hd,hm⟩
end Go.Proofs.YtcblkmlcbedomaaGreatDoor.F

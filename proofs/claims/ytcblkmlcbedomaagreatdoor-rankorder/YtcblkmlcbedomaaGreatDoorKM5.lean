/- Parts of the proof that stand ahead of it (K 5). -/
import Derived.Test.YtcblkmlcbedomaaGreatDoorKM4
import Derived.Test.YtcblkmlcbedomaaGreatDoorTM10
set_option linter.unusedVariables false
set_option linter.unusedSimpArgs false
set_option maxRecDepth 20000
set_option maxHeartbeats 16000000
namespace Go.Proofs.YtcblkmlcbedomaaGreatDoor.K
open Go.RowKit
structure QuV (w:World) (b base:Nat) (x0 x1 v x3 x4:Value) (l:List Int):Prop where
 bk:w.heap[b]? =some (.cells #[x0,x1,v,x3,x4] 68)
 own:w.ownsRow base 3 1 v l.length (l.map (Value.int .i64))
 ne:v.ownBlock≠some b
theorem XX {W:World} {g:Nat} {x0 x1 x2 x3 x4:Value} {t:TypeId} (h:W.heap[g]? =some (.cells #[x0,x1,x2,x3,x4] t)):
  W.cell? ⟨g,0,none⟩=some x0∧W.cell? ⟨g,1,none⟩=some x1∧W.cell? ⟨g,2,none⟩=some x2∧W.cell? ⟨g,3,none⟩=some x3∧W.cell? ⟨g,4,none⟩=some x4∧∀i,W.frozen? ⟨g,i,none⟩=false:=by
 refine⟨?_,?_,?_,?_,?_,fun i=> ?_⟩<;>simp[World.cell?,World.frozen?,h]
structure Qs (b:Nat) (v:Value) (w w':World):Prop where
 os:w'.os=w.os
 tape:w'.tape=w.tape
 output:w'.output=w.output
 size:w.heap.size≤w'.heap.size
 block:∀k,k<w.heap.size→k≠b→some k≠v.ownBlock→w'.heap[k]? =w.heap[k]?
theorem Qs.refl (b:Nat) (v:Value) (w:World):Qs b v w w:=⟨rfl,rfl,rfl,Nat.le_refl _,fun _ _ _ _=>rfl⟩
def Nxt (w:World) (v v':Value):Prop:=v'.ownBlock=v.ownBlock∨∃g,v'.ownBlock=some g∧w.heap.size≤g
theorem Nxt.refl (w:World) (v:Value):Nxt w v v:= .inl rfl
theorem Nxt.then {w w1:World} {v v1 v2:Value} (h:Nxt w v v1) (k:Nxt w1 v1 v2) (s:w.heap.size≤w1.heap.size):Nxt w v v2:=by
 rcases k with k|⟨g,k,hg⟩
 ·rcases h with h|⟨g,h,hg⟩
  ·exact .inl (k.trans h)
  ·exact .inr ⟨g,k.trans h,hg⟩
 ·exact .inr ⟨g,k,Nat.le_trans s hg⟩
theorem Qs.then {b:Nat} {v v1:Value} {w w1 w2:World} (h:Qs b v w w1) (k:Qs b v1 w1 w2) (hn:Nxt w v v1):Qs b v w w2:=
 ⟨k.os.trans h.os,k.tape.trans h.tape,k.output.trans h.output,Nat.le_trans h.size k.size,fun x h1 h2 h3=>by
  refine(k.block x (Nat.lt_of_lt_of_le h1 h.size) h2 (fun e=> ?_)).trans (h.block x h1 h2 h3)
  rcases hn with hn|⟨g,hn,hg⟩
  ·exact h3 (e.trans hn)
  ·rw[hn]at e;have:=Option.some.inj e;omega⟩
theorem Qs.grown {b:Nat} {v:Value} {w w1:World} (h:w.grownBy w1 v.ownBlock):Qs b v w w1:=⟨h.os,h.tape,h.output,h.size,fun k h1 _ h3=>h.block k h1 h3⟩
theorem Qs.setb {b:Nat} {v:Value} (w:World) (i:Nat) (u:Value):Qs b v w (w.setCell ⟨b,i,none⟩ u):=
 ⟨rfl,rfl,rfl,by simp,fun k _ h2 _=>heap_setCell_other w ⟨b,i,none⟩ k u (by simpa using h2)⟩
theorem QuV.lt {w:World} {b base:Nat} {x0 x1 v x3 x4:Value} {l:List Int} (h:QuV w b base x0 x1 v x3 x4 l):b<w.heap.size:=(Array.getElem?_eq_some_iff.1 h.bk).1
theorem QuV.row {w:World} {b base:Nat} {x0 x1 v x3 x4:Value} {l:List Int} (h:QuV w b base x0 x1 v x3 x4 l) (hl:0<l.length):∃g c,v= .slice (some ⟨g,0,none⟩) l.length c∧QR w base g l.length c l∧b≠g:=by
 obtain⟨g,c,rfl,-,-⟩:=h.own.form hl
 exact⟨g,c,rfl,h.own,fun e=>h.ne (by rw[e];rfl)⟩
theorem QuV.tnd {w w':World} {b base g c n:Nat} {x0 x1 x3 x4:Value} {l l':List Int} (h:QuV w b base x0 x1 (.slice (some ⟨g,0,none⟩) n c) x3 x4 l) (hn:l.length=n) (hbg:b≠g) (k:Tnd w w' base g n c l l'):QuV w' b base x0 x1 (.slice (some ⟨g,0,none⟩) n c) x3 x4 l'∧Qs b (.slice (some ⟨g,0,none⟩) n c) w w':=by
 refine⟨⟨(k.2.2.block b h.lt (fun e=>hbg (Option.some.inj e))).trans h.bk,?_,h.ne⟩,Qs.grown k.2.2⟩
 have:=k.2.1
 unfold QR at this
 rw[k.2.1.len];exact this
theorem init_l (b base:Nat) (x0 x1 v x3 x4:Value) (l:List Int) (w:World) (h:QuV w b base x0 x1 v x3 x4 l) (hl:l.length≤1000000):
  Calls Tryz.prog 43 #[qh b] w fun e w'=>e= .returned (.tuple #[])∧∃l',l'.Perm l∧Hp l'∧QuV w' b base x0 x1 v x3 x4 l'∧Qs b v w w':=by
 rcases Nat.eq_zero_or_pos l.length with h0|h0
 ·obtain rfl:=List.eq_nil_of_length_eq_zero h0
  have HQ:=zk h
  obtain⟨-,-,hc,-⟩:=XX h.bk
  obtain⟨a,c,rfl⟩:∃a c,v= .slice a 0 c:=by
   rcases id h.own.2 with ⟨e,-⟩|⟨g,cap,cur,e,-⟩
   ·exact⟨_,_,e⟩
   ·exact⟨_,_,e⟩
  have CN:=zk (fun W=>qLen_l a 0 c W)
  have mN:=mLen hc
  clear h h0
  go_enter Tryz.func43,Tryz.ntmps43
  go_wp2_with fail
  refine(zq CN _).mono ?_
  rintro e w1 ⟨rfl,hw⟩
  subst hw
  go_wp2_with fail
  go_loopw [3] (fun v wr=>v= .int .i64 (-1)∧wr=w1) (fun v _=>0)
  case atStart=>exact⟨rfl,rfl⟩
  case round=>
   obtain⟨rfl,hw⟩:=hrel
   subst hw
   go_wp2_with fail
   refine bodyPost_end (results_none rfl _ _ _) rfl ?_
   exact⟨rfl,[],List.Perm.refl _,Hp.nil,zq HQ,Qs.refl _ _ _⟩
 ·obtain⟨g,c,rfl,hr,hbg⟩:=h.row h0
  obtain⟨-,-,hc,-⟩:=XX h.bk
  have HQ:=zk h
  obtain⟨n,hn⟩:∃n,l.length=n:=⟨_,rfl⟩
  rw[hn]at hr hc hl h0 HQ⊢
  have CN:=zk (fun W=>qLen_l (some ⟨g,0,none⟩) n c W)
  have CD:=zk (fun i l' W hc h hu=>down_l b base g n c i n l' W hc hbg h hl (hn0:=Nat.le_refl _) (hi:=hu))
  have mN:=mLen hc
  have T0:=zk (Tnd.refl hr)
  have HC:=zk hc
  have HN:=zk hn
  clear h hr hc hn
  go_enter Tryz.func43,Tryz.ntmps43
  go_wp2_with fail
  refine(zq CN _).mono ?_
  rintro e w1 ⟨rfl,hw⟩
  subst hw
  clear CN mN
  go_wp2_with fail
  go_loopw [3] (fun v wr=>∃(m:Nat) (l':List Int),v= .int .i64 ((m:Int)-1)∧m≤n∧Hid (HpB l' n m)∧Hid (Tnd w1 wr base g n c l l')) (fun v _=>(intOf v+1).toNat)
  case atStart=>exact⟨n/2,l,by simp,by omega,HpB.half _ _,T0⟩
  case round=>
   obtain⟨m,l',rfl,hm,hH,hT⟩:=hrel
   rcases Nat.eq_zero_or_pos m with hz|hz
   ·subst hz
    go_wp2_with fail
    refine bodyPost_end (results_none rfl _ _ _) rfl ?_
    obtain⟨q1,q2⟩:=QuV.tnd (zq HQ) (zq HN) hbg (zq hT)
    refine⟨rfl,l',(zq hT).1,?_,q1,q2⟩
    have:=zq hH
    unfold Hp
    rw[(zq hT).2.1.len];exact this
   ·obtain⟨k,rfl⟩:∃k,m=k+1:=⟨m-1,by omega⟩
    have e1:((k+1:Nat):Int)-1=(k:Int):=by omega
    have e2:(k:Int)+1-1=(k:Int):=by omega
    have b1:decide ((0:Int)≤(k:Int))=true:=decide_eq_true (by omega)
    have cc:=(zq hT).cell (zq HC) hbg
    have CD1:=zk (zq CD k l' wr cc (zq hT).2.1 (by omega) (zq hH))
    clear cc
    go_wp2_with fail
    refine(zq CD1).mono ?_
    rintro e w2 ⟨⟨r,rfl⟩,l2,hp2,t2,-⟩
    have T2:=zk ((zq hT).then t2)
    have H2:=zk hp2
    clear CD1 hT t2 hp2 hH
    go_wp2_with fail
    exact⟨⟨k,l2,by simp,by omega,H2,T2⟩,by simp[intOf]⟩
theorem intT_info:(Tryz.prog.info? 3).map (fun i=>(i.zero,i.size,i.bytes))=some (some (.int .i64 0),1,8):=by kernel_rfl
theorem infoT {t:TypeId} {z:Value} {n m:Nat} (h:(Tryz.prog.info? t).map (fun i=>(i.zero,i.size,i.bytes))=some (some z,n,m)):∃i,Tryz.prog.info? t=some i∧i.zero=some z∧i.size=n∧i.bytes=m:=by
 cases hi:Tryz.prog.info? t with
 |none=>rw[hi]at h;cases h
 |some i=>
  rw[hi]at h
  simp only[Option.map_some,Option.some.injEq,Prod.mk.injEq]at h
  exact⟨i,rfl,h.1,h.2.1,h.2.2⟩
theorem new_int (w:World) (x:Int) {g:Nat} (h:w.heap[g]? =some (.cells #[.int .i64 x] 3)):∀(j:Nat) (u:Value),[Value.int .i64 x][j]? =some u→w.cell? ((⟨g,0,none⟩:Addr).add j)=some u:=by
 intro j u hu
 match j,hu with
 |0,hu=>simp at hu;subst hu;simp[World.cell?,Addr.add,h]
theorem tassert (x:Int) (W:World):(Instr.typeAssert (.iface 3 (.int .i64 x)) 20 3 false).run Tryz.prog W= .ok (.int .i64 x) W:=by kernel_rfl
theorem pushed {w w6:World} {b base g cap n:Nat} {x0 x1 v x3 x4:Value} {l:List Int} {x:Int} {o:Obj} (hbk:w.heap[b]? =some (.cells #[x0,x1,v,x3,x4] 68)) (hlt:b<w.heap.size) (hne:v.ownBlock≠some b) (hb:base≤w.heap.size)
  (own:w6.ownsRow base 3 1 (.slice (some ⟨g,0,none⟩) (n+1) cap) (n+1) (l.map (Value.int .i64)++[.int .i64 x])) (gr:(w.alloc o).grownBy w6 v.ownBlock) (at_:v.ownBlock=some g∨g=w.heap.size+1) (k6:w6.heap[b]? =some (.cells #[x0,x1,v,x3,x4] 68)) (hn:l.length=n):
  ∃v',QuV (w6.setCell ⟨b,2,none⟩ (.slice (some ⟨g,0,none⟩) (n+1) cap)) b base x0 x1 v' x3 x4 (l++[x])∧Qs b v w (w6.setCell ⟨b,2,none⟩ (.slice (some ⟨g,0,none⟩) (n+1) cap))∧Nxt w v v':=by
 have hgb:g≠b:=by
  rintro rfl
  rcases at_ with h|h
  ·exact hne h
  ·omega
 have q:Qs b v w (w6.setCell ⟨b,2,none⟩ (.slice (some ⟨g,0,none⟩) (n+1) cap)):=by
  have a1:Qs b v w (w.alloc o):=⟨rfl,rfl,rfl,by simp,fun k hk _ _=>heap_alloc_old w o hk⟩
  have a2:Qs b v (w.alloc o) w6:=Qs.grown gr
  have a3:=a1.then a2 (Nxt.refl _ _)
  have a4:=a3.then (Qs.setb w6 2 (.slice (some ⟨g,0,none⟩) (n+1) cap)) (Nxt.refl _ _)
  exact⟨a4.os,a4.tape,a4.output,a4.size,a4.block⟩
 refine⟨.slice (some ⟨g,0,none⟩) (n+1) cap,⟨?_,?_,fun e=>hgb (Option.some.inj e)⟩,q,?_⟩
 ·exact(heap_setCell_same w6 b 2 _ _ _ k6).trans (by simp)
 ·have:=own.kept (w':=(w6.setCell ⟨b,2,none⟩ (.slice (some ⟨g,0,none⟩) (n+1) cap))) (row:=some b) ⟨rfl,rfl,rfl,by simp,fun k _ h2=>heap_setCell_other w6 ⟨b,2,none⟩ k _ (fun e=>h2 (by simp[e]))⟩ (.inr (fun e=>hgb (Option.some.inj e)))
  rw[List.length_append,List.length_singleton,hn,List.map_append]
  exact this
 ·rcases at_ with h|h
  ·exact .inl h.symm
  ·exact .inr ⟨g,rfl,by omega⟩
theorem qPush_l (b base:Nat) (x0 x1 v x3 x4:Value) (l:List Int) (x:Int) (w:World) (h:QuV w b base x0 x1 v x3 x4 l) (hl:l.length≤1000000) (hbb:base≤w.heap.size):
  Calls Tryz.prog 291 #[.pointer (some ⟨b,2,none⟩),.iface 3 (.int .i64 x)] w fun e w'=>e= .returned (.tuple #[])∧∃v',QuV w' b base x0 x1 v' x3 x4 (l++[x])∧Qs b v w w'∧Nxt w v v':=by
 obtain⟨-,-,hc,-,-,hz⟩:=XX h.bk
 have hz2:=hz 2
 obtain⟨ti,hi0,hz0,hz1,hzb⟩:=infoT intT_info
 have HO:=h.own
 have HNE:=zk h.ne
 have HBK:=zk h.bk
 have hlt:=h.lt
 clear h hz
 generalize hn:l.length=n at*
 have HN:=zk hn
 clear hn
 have ta:∀W:World,(Instr.typeAssert (.iface 3 (.int .i64 x)) 20 3 false).run Tryz.prog W= .ok (.int .i64 x) W:=fun W=>tassert x W
 go_enter Tryz.func291,Tryz.ntmps291
 go_wp2_with fail
 refine wp_region_held_drew (S:=(fun _=>True)) (by kernel_rfl) trivial (fun hHeld=> ?_)
 refine tkh 0 ?_ rfl (by kernel_rfl) (fun _ _ _ h=>h) ?_ (by assumption) ?_
 rotate_left
 ·intro w hSw;(try dsimp only at hSw);go_simp;(try with_reducible rfl)
 try simp only[pls]
 refine tkh 1 ?_ rfl (by kernel_rfl) (fun _ _ _ h=>h) ?_ (by assumption) ?_
 rotate_left
 ·intro w hSw;(try dsimp only at hSw);go_simp;(try with_reducible rfl)
 try simp only[pls]
 refine tkh 2 ?_ rfl (by kernel_rfl) (fun _ _ _ h=>h) ?_ (by assumption) ?_
 rotate_left
 ·intro w hSw;(try dsimp only at hSw);go_simp;(try with_reducible rfl)
 try simp only[pls]
 refine tkh 4 ?_ rfl (by kernel_rfl) (fun _ _ _ h=>h) ?_ (by assumption) ?_
 rotate_left
 ·intro w hSw;(try dsimp only at hSw);go_simp;(try with_reducible rfl)
 try simp only[pls]
 refine tkh 5 ?_ rfl (by kernel_rfl) (fun _ _ _ h=>h) ?_ (by assumption) ?_
 rotate_left
 ·intro w hSw;(try dsimp only at hSw);go_simp;(try with_reducible rfl)
 try simp only[pls]
 refine wpAnyH_ready (rs:=[3,6]) (by kernel_rfl) (by simp) ?_
 refine AllReadyH.cons rfl (fun K hK=> ?_) (AllReadyH.cons rfl (fun K hK=> ?_) AllReadyH.nil)
 ·go_simp
  refine hK.out _ _ trivial (fun hHeld=> ?_)
  clear hK K
  try simp only[pls]
  refine wpAnyH_ready (rs:=[6]) (by kernel_rfl) (by simp) ?_
  refine AllReadyH.cons rfl (fun K hK=> ?_) AllReadyH.nil
  go_simp
  refine hK.out _ _ trivial (fun hHeld=> ?_)
  clear hK K
  try simp only[pls]
  refine wpAnyH_ready (rs:=[7]) (by kernel_rfl) (by simp) ?_
  refine AllReadyH.cons rfl (fun K hK=> ?_) AllReadyH.nil
  refine step_append_lies _ rfl _ _ 66 rfl base 3 ti _ 1 8 Tryz.underlying66 hi0 hz0 hz1 hzb rfl (by omega) _ _ _ rfl (HO.alloc _) ⟨w.heap.size,0,none⟩ 1 1 [.int .i64 x] rfl rfl (new_int _ _ (heap_alloc_new w _)) (by simp[Value.oneCell']) (by omega) (by unfold maxLen;omega) (by omega) (by simp;omega) (w.heap.size+1) (by simp) ?_
  intro gg cap1 w6 hown1 hgrow hat hlt1
  have k6:w6.heap[b]? =some (.cells #[x0,x1,v,x3,x4] 68):=(hgrow.block b (by simp;omega) (fun e=>zq HNE e.symm)).trans ((heap_alloc_old w _ hlt).trans (zq HBK))
  obtain⟨-,-,q2,-,-,qz⟩:=XX k6
  have qz2:=qz 2
  have FIN:=zk (pushed (zq HBK) hlt (zq HNE) hbb hown1 (o:= .cells #[.int .i64 x] 3) ⟨hgrow.os,hgrow.tape,hgrow.output,hgrow.size,hgrow.block⟩ hat k6 (zq HN))
  clear hown1 hgrow hat k6 qz
  refine hK.out _ _ trivial (fun hHeld=> ?_)
  clear hK K
  try simp only[pls]
  refine tkh 8 ?_ rfl (by kernel_rfl) (fun _ _ _ h=>h) ?_ (by assumption) ?_
  rotate_left
  ·intro w hSw;(try dsimp only at hSw);go_simp;(try with_reducible rfl)
  try simp only[pls]
  refine wpAnyH_ready (rs:=[9]) (by kernel_rfl) (by simp) ?_
  refine AllReadyH.cons rfl (fun K hK=> ?_) AllReadyH.nil
  go_simp
  refine hK.out _ _ trivial (fun hHeld=> ?_)
  clear hK K
  try simp only[pls]
  refine wpAnyH_done (by kernel_rfl) ?_ _
  refine bodyPost_end (results_none rfl _ _ _) rfl ?_
  exact⟨rfl,zq FIN⟩
 ·go_simp
  refine hK.out _ _ trivial (fun hHeld=> ?_)
  clear hK K
  try simp only[pls]
  refine wpAnyH_ready (rs:=[3]) (by kernel_rfl) (by simp) ?_
  refine AllReadyH.cons rfl (fun K hK=> ?_) AllReadyH.nil
  go_simp
  refine hK.out _ _ trivial (fun hHeld=> ?_)
  clear hK K
  try simp only[pls]
  refine wpAnyH_ready (rs:=[7]) (by kernel_rfl) (by simp) ?_
  refine AllReadyH.cons rfl (fun K hK=> ?_) AllReadyH.nil
  refine step_append_lies _ rfl _ _ 66 rfl base 3 ti _ 1 8 Tryz.underlying66 hi0 hz0 hz1 hzb rfl (by omega) _ _ _ rfl (HO.alloc _) ⟨w.heap.size,0,none⟩ 1 1 [.int .i64 x] rfl rfl (new_int _ _ (heap_alloc_new w _)) (by simp[Value.oneCell']) (by omega) (by unfold maxLen;omega) (by omega) (by simp;omega) (w.heap.size+1) (by simp) ?_
  intro gg cap1 w6 hown1 hgrow hat hlt1
  have k6:w6.heap[b]? =some (.cells #[x0,x1,v,x3,x4] 68):=(hgrow.block b (by simp;omega) (fun e=>zq HNE e.symm)).trans ((heap_alloc_old w _ hlt).trans (zq HBK))
  obtain⟨-,-,q2,-,-,qz⟩:=XX k6
  have qz2:=qz 2
  have FIN:=zk (pushed (zq HBK) hlt (zq HNE) hbb hown1 (o:= .cells #[.int .i64 x] 3) ⟨hgrow.os,hgrow.tape,hgrow.output,hgrow.size,hgrow.block⟩ hat k6 (zq HN))
  clear hown1 hgrow hat k6 qz
  refine hK.out _ _ trivial (fun hHeld=> ?_)
  clear hK K
  try simp only[pls]
  refine tkh 8 ?_ rfl (by kernel_rfl) (fun _ _ _ h=>h) ?_ (by assumption) ?_
  rotate_left
  ·intro w hSw;(try dsimp only at hSw);go_simp;(try with_reducible rfl)
  try simp only[pls]
  refine wpAnyH_ready (rs:=[9]) (by kernel_rfl) (by simp) ?_
  refine AllReadyH.cons rfl (fun K hK=> ?_) AllReadyH.nil
  go_simp
  refine hK.out _ _ trivial (fun hHeld=> ?_)
  clear hK K
  try simp only[pls]
  refine wpAnyH_done (by kernel_rfl) ?_ _
  refine bodyPost_end (results_none rfl _ _ _) rfl ?_
  exact⟨rfl,zq FIN⟩
theorem own_take {w:World} {base g n c m:Nat} {t:TypeId} {xs:List Value} (h:w.ownsRow base t 1 (.slice (some ⟨g,0,none⟩) n c) n xs) (hm:m≤n):w.ownsRow base t 1 (.slice (some ⟨g,0,none⟩) m c) m (xs.take m):=by
 have hx:=h.1
 refine⟨by rw[List.length_take];omega,?_⟩
 rcases h.2 with ⟨e,_⟩|⟨g',cap,cur,e,hb,hg,h1,h2,h3,h4⟩
 ·cases e
 ·injection e with e1 e2 e3
  injection e1 with e1
  injection e1 with e1
  subst e1;subst e3
  refine .inr ⟨g,c,cur,rfl,hb,hg,by omega,h2,h3,?_⟩
  rw[←h4,List.take_take]
  congr 1
  omega
theorem take_last {l:List Int} {m:Nat} (hl:l.length=m+1):l=l.take m++[l.getD m 0]:=by
 have h:=List.take_succ_eq_append_getElem (l:=l) (i:=m) (by omega)
 rw[List.take_of_length_le (by omega)]at h
 rw[List.getD_eq_getElem?_getD,List.getElem?_eq_getElem (by omega)]
 exact h
theorem qPop_l (b base g c m:Nat) (x0 x1 x3 x4:Value) (l:List Int) (w:World) (h:QuV w b base x0 x1 (.slice (some ⟨g,0,none⟩) (m+1) c) x3 x4 l) (hl:l.length=m+1) (hm:m≤1000000):
  Calls Tryz.prog 290 #[.pointer (some ⟨b,2,none⟩)] w fun e w'=>e= .returned (.iface 3 (.int .i64 (l.getD m 0)))∧QuV w' b base x0 x1 (.slice (some ⟨g,0,none⟩) m c) x3 x4 (l.take m)∧Qs b (.slice (some ⟨g,0,none⟩) (m+1) c) w w':=by
 obtain⟨-,-,hc,-,-,hz⟩:=XX h.bk
 have hz2:=hz 2
 have own:=h.own
 rw[hl]at own
 have hcap:m+1≤c∧c≤9223372036854775807:=by
  rcases own.2 with ⟨e,_⟩|⟨g',cap,cur,e,_,_,h1,h2,_⟩
  ·cases e
  ·injection e with e1 e2 e3
   subst e3
   unfold maxLen at h2
   exact⟨h1,by omega⟩
 have c1:w.cell? ⟨g,m,none⟩=some (.int .i64 (l.getD m 0)):=QR.at (show QR w base g (m+1) c l from own) (by omega)
 have e1:((m+1:Nat):Int)-1=(m:Int):=by omega
 have e2:(m:Int)+1-1=(m:Int):=by omega
 have FIN:Hid (QuV (w.setCell ⟨b,2,none⟩ (.slice (some ⟨g,0,none⟩) m c)) b base x0 x1 (.slice (some ⟨g,0,none⟩) m c) x3 x4 (l.take m)∧Qs b (.slice (some ⟨g,0,none⟩) (m+1) c) w (w.setCell ⟨b,2,none⟩ (.slice (some ⟨g,0,none⟩) m c))):=by
  have hgb:g≠b:=fun e=>h.ne (by rw[e];rfl)
  have lt:(l.take m).length=m:=by rw[List.length_take];omega
  refine⟨⟨(heap_setCell_same w b 2 _ _ _ h.bk).trans (by simp),?_,fun e=>hgb (Option.some.inj e)⟩,Qs.setb w 2 _⟩
  rw[lt,List.map_take]
  exact(own_take own (by omega)).kept (row:=some b) ⟨rfl,rfl,rfl,by simp,fun k _ h2=>heap_setCell_other w ⟨b,2,none⟩ k _ (fun e=>h2 (by simp[e]))⟩ (.inr (fun e=>hgb (Option.some.inj e)))
 clear h own hz
 generalize l.getD m 0=x at*
 have HL:=zk hl
 clear hl
 go_enter Tryz.func290,Tryz.ntmps290
 go_wp2_with fail
 go_ret
 exact⟨rfl,zq FIN⟩
theorem hpop_l (b base g c m:Nat) (x0 x1 x3 x4:Value) (l:List Int) (w:World) (h:QuV w b base x0 x1 (.slice (some ⟨g,0,none⟩) (m+1) c) x3 x4 l) (hl:l.length=m+1) (hm:m≤999999) (hp:Hp l):
  Calls Tryz.prog 119 #[qh b] w fun e w'=>e= .returned (.iface 3 (.int .i64 (l.getD 0 0)))∧∃l',l.Perm (l.getD 0 0::l')∧Hp l'∧QuV w' b base x0 x1 (.slice (some ⟨g,0,none⟩) m c) x3 x4 l'∧Qs b (.slice (some ⟨g,0,none⟩) (m+1) c) w w':=by
 obtain⟨-,-,hc,-⟩:=XX h.bk
 have hbg:b≠g:=fun e=>h.ne (by rw[e];rfl)
 have own:QR w base g (m+1) c l:=by have:=h.own;rw[hl]at this;exact this
 have CN:=zk (fun W=>qLen_l (some ⟨g,0,none⟩) (m+1) c W)
 have CS:=zk (qSwap_l base g (m+1) c 0 m l w own (by omega) (by omega))
 have CD:=zk (fun l' W hc h hu=>down_l b base g (m+1) c 0 m l' W hc hbg h (by omega) (by omega) (by omega) hu)
 have CP:=zk (fun l' W h hl=>qPop_l b base g c m x0 x1 x3 x4 l' W h hl (by omega))
 have T0:=zk (Tnd.refl own)
 have HC:=zk hc
 have HQ:=zk h
 have HL:=zk hl
 have POP:=zk (HpB.popped hp hl)
 have e1:((m+1:Nat):Int)-1=(m:Int):=by omega
 have e2:(m:Int)+1-1=(m:Int):=by omega
 have mN:=mLen hc
 have mS:=mSwap hc
 clear h own hl hp hc
 go_enter Tryz.func119,Tryz.ntmps119
 go_wp2_with fail
 refine(zq CN _).mono ?_
 rintro e w1 ⟨rfl,hw⟩
 subst hw
 clear CN mN
 go_wp2_with fail
 refine(zq CS).mono ?_
 rintro e w2 ⟨rfl,q2,g2⟩
 have T2:=zk ((zq T0).swap (show 0<m+1 by omega) (show m<m+1 by omega) q2 g2)
 have c2:=(zq T2).cell (zq HC) hbg
 have CD1:=zk (zq CD _ w2 c2 q2 (zq POP))
 clear CS CD T0 q2 g2 c2 mS
 go_wp2_with fail
 refine(zq CD1).mono ?_
 rintro e w3 ⟨⟨r,rfl⟩,l2,hp2,t2,tl2⟩
 have T3:=zk ((zq T2).then t2)
 have l2l:=t2.2.1.len
 have hx:l2.getD m 0=l.getD 0 0:=by
  rw[tl2 m (Nat.le_refl _),swp_at (by rw[zq HL];omega) (by rw[zq HL];omega),if_pos rfl]
 obtain⟨q3,k3⟩:=QuV.tnd (zq HQ) (zq HL) hbg (zq T3)
 have CP1:=zk (zq CP l2 w3 q3 l2l)
 rw[hx]at CP1
 have FIN:Hid (l.Perm (l.getD 0 0::l2.take m)∧Hp (l2.take m)):=by
  refine⟨?_,HpB.take hp2 (by omega)⟩
  have e:=take_last l2l
  rw[hx]at e
  have p1:=(zq T3).1.symm
  rw[e]at p1
  exact p1.trans List.perm_append_comm
 have K3:=zk k3
 have mP:=mPop b w3
 clear CD1 T2 T3 CP t2 tl2 hp2 q3 k3 hx l2l POP HQ HC
 go_wp2_with fail
 refine(zq CP1).mono ?_
 rintro e w4 ⟨rfl,q4,k4⟩
 clear CP1 mP
 go_wp2_with fail
 go_ret
 exact⟨rfl,_,(zq FIN).1,(zq FIN).2,q4,(zq K3).then k4 (Nxt.refl _ _)⟩
theorem hpush_l (b base:Nat) (x0 x1 v x3 x4:Value) (l:List Int) (x:Int) (w:World) (h:QuV w b base x0 x1 v x3 x4 l) (hl:l.length≤999999) (hb:base≤w.heap.size) (hp:Hp l):
  Calls Tryz.prog 114 #[qh b,.iface 3 (.int .i64 x)] w fun e w'=>e= .returned (.tuple #[])∧∃v' l',l'.Perm (x::l)∧Hp l'∧QuV w' b base x0 x1 v' x3 x4 l'∧Qs b v w w'∧Nxt w v v':=by
 have CP:=zk (qPush_l b base x0 x1 v x3 x4 l x w h (by omega) hb)
 have CN:=zk (fun a n c W=>qLen_l a n c W)
 have CU:=zk (fun g c l' W hc hbg h hu (hn:l'.length=l.length+1)=>up_l b base g (l.length+1) c l.length l' W hc hbg h (by omega) (by omega) hu)
 have US:=zk (UpI.snoc hp x)
 have mP:=mPush b w
 have e1:((l.length+1:Nat):Int)-1=(l.length:Int):=by omega
 have e2:(l.length:Int)+1-1=(l.length:Int):=by omega
 clear h hp
 go_enter Tryz.func114,Tryz.ntmps114
 go_wp2_with fail
 refine(zq CP).mono ?_
 rintro e w1 ⟨rfl,v1,q1,k1,n1⟩
 obtain⟨g,c,hv,hr,hbg⟩:=q1.row (by simp)
 subst hv
 rw[show(l++[x]).length=l.length+1 by simp]at q1 hr
 obtain⟨-,-,hc,-⟩:=XX q1.bk
 have CU1:=zk (zq CU g c _ w1 hc hbg hr (zq US) (by simp))
 have mN:=mLen hc
 have HQ:=zk q1
 have HK:=zk k1
 have HN:=zk n1
 clear CP CU US mP q1 k1 n1 hr hc
 go_wp2_with fail
 refine(zq CN _ _ _ _).mono ?_
 rintro e w2 ⟨rfl,hw⟩
 subst hw
 clear CN mN
 go_wp2_with fail
 refine(zq CU1).mono ?_
 rintro e w3 ⟨rfl,l3,hp3,t3⟩
 obtain⟨q3,k3⟩:=QuV.tnd (zq HQ) (by simp) hbg t3
 clear CU1
 go_wp2_with fail
 refine bodyPost_end (results_none rfl _ _ _) rfl ?_
 exact⟨rfl,_,l3,t3.1.trans List.perm_append_comm,hp3,q3,(zq HK).then k3 (zq HN),zq HN⟩
theorem put_l (b base:Nat) (x0 x1 v x3 x4:Value) (l:List Int) (x:Int) (w:World) (h:QuV w b base x0 x1 v x3 x4 l) (hl:l.length≤999999) (hb:base≤w.heap.size) (hp:Hp l):
  Calls Tryz.prog 68 #[.pointer (some ⟨b,2,none⟩),.int .i64 x] w fun e w'=>e= .returned (.tuple #[])∧∃v' l',l'.Perm (x::l)∧Hp l'∧QuV w' b base x0 x1 v' x3 x4 l'∧Qs b v w w'∧Nxt w v v':=by
 have CP:=zk (hpush_l b base x0 x1 v x3 x4 l x w h hl hb hp)
 clear h hl hb hp
 go_enter Tryz.func68,Tryz.ntmps68
 go_wp2_with fail
 refine(zq CP).mono ?_
 rintro e w1 ⟨rfl,hr⟩
 have HR:=zk hr
 clear CP hr
 go_wp2_with fail
 refine bodyPost_end (results_none rfl _ _ _) rfl ?_
 exact⟨rfl,zq HR⟩
theorem tassert2 (x:Int) (W:World):(Instr.typeAssert (.iface 3 (.int .i64 x)) 20 3 false).run Tryz.prog W= .ok (.int .i64 x) W:=by kernel_rfl
theorem take_q (b base g c m:Nat) (x0 x1 x3 x4:Value) (l:List Int) (w:World) (h:QuV w b base x0 x1 (.slice (some ⟨g,0,none⟩) (m+1) c) x3 x4 l) (hl:l.length=m+1) (hm:m≤999999) (hp:Hp l):
  Calls Tryz.prog 75 #[.pointer (some ⟨b,2,none⟩)] w fun e w'=>e= .returned (.int .i64 (l.getD 0 0))∧∃l',l.Perm (l.getD 0 0::l')∧Hp l'∧QuV w' b base x0 x1 (.slice (some ⟨g,0,none⟩) m c) x3 x4 l'∧Qs b (.slice (some ⟨g,0,none⟩) (m+1) c) w w':=by
 have CP:=zk (hpop_l b base g c m x0 x1 x3 x4 l w h hl hm hp)
 clear h hl hm hp
 have ta:∀W:World,(Instr.typeAssert (.iface 3 (.int .i64 (l.getD 0 0))) 20 3 false).run Tryz.prog W= .ok (.int .i64 (l.getD 0 0)) W:=fun W=>tassert2 _ W
 generalize l.getD 0 0=x at*
 go_enter Tryz.func75,Tryz.ntmps75
 go_wp2_with fail
 refine(zq CP).mono ?_
 rintro e w1 ⟨rfl,hr⟩
 have HR:=zk hr
 clear CP hr
 go_wp2_with fail
 go_ret
 exact⟨rfl,zq HR⟩
theorem QuV.kept {w w':World} {b base:Nat} {x0 x1 v x3 x4:Value} {l:List Int} (h:QuV w b base x0 x1 v x3 x4 l) (kb:w'.heap[b]? =w.heap[b]?) (kv:∀g,v.ownBlock=some g→w'.heap[g]? =w.heap[g]?):QuV w' b base x0 x1 v x3 x4 l:=
 ⟨kb.trans h.bk,ju h.own kv,h.ne⟩
theorem intk_append {w:World} {base n:Nat} {v:Value} {xs:List Value} (own:w.ownsRow base 3 1 v n xs) (hb:base≤w.heap.size) {g:Nat} {x:Int} (hx:w.heap[g]? =some (.cells #[.int .i64 x] 3)) (hs:n≤1000000):
  ∃v' w',(Builtin.append_ #[26,26] 26 #[v,.slice (some ⟨g,0,none⟩) 1 1]).run Tryz.prog w= .ok v' w'∧w'.ownsRow base 3 1 v' (n+1) (xs++[.int .i64 x])∧w.grownBy w' v.ownBlock∧(v'.ownBlock=v.ownBlock∨v'.ownBlock=some w.heap.size):=by
 obtain⟨ti,hi0,hz0,hz1,hz2⟩:=infoT intT_info
 obtain⟨g',cap,w',hr,h2,h3,h4,h5⟩:=run_append_lies (P:=Tryz.prog) w 26 26 base 3 ti _ 1 8 Tryz.underlying26 hi0 hz0 hz1 hz2 rfl (by omega) v n xs own ⟨g,0,none⟩ 1 1 [.int .i64 x] rfl (new_int w x hx) (by simp[Value.oneCell']) (by omega) (by unfold maxLen;omega) (by omega) hb _ rfl
 refine⟨_,w',hr,h2,h3,?_⟩
 rcases h4 with h4|h4
 ·exact .inl h4.symm
 ·exact .inr (by rw[h4];rfl)
theorem app_runk {P:Program} {w:World} {ops:Array Oper} {rest:List Oper} {o:Oper} {a:Act} {Q:Exit→Act→World→Prop} (hgd:o.guard=none) (s x:Operand) (t ty:TypeId)
  (ho:o.op= .call {callee:= .builtin .append,args:= #[s,x],argTypes:= #[t,t]}) (hty:o.type=ty) (v1 v2:Value) (hs:a.eval s=v1) (hx:a.eval x=v2) {v':Value} {w':World}
  (hr:(Builtin.append_ #[t,t] ty #[v1,v2]).run P w= .ok v' w') (h:wpList P ops Q rest (a.put o.dst v') w'):wpList P ops Q (o::rest) a w:=by
 refine wpList_plain hgd fun K hK=> ?_
 subst hty
 unfold Oper.wp
 simp[execOp,ho,resolve,invoke,builtin,hs,hx,hr,Result.andThen]
 exact hK _ _ h
def lenV:Value→Nat
 | .slice _ n _=>n
 |_=>0
theorem own_lenV {w:World} {base n:Nat} {t:TypeId} {v:Value} {xs:List Value} (h:w.ownsRow base t 1 v n xs):lenV v=n:=by
 rcases h.2 with ⟨rfl,h0⟩|⟨g,cap,cur,rfl,_⟩
 ·rw[h0];rfl
 ·rfl
def StepC (M:World→Value→List Int→List Int→Prop) (F N0 b base:Nat) (x0 x1 x3 x4:Value):Prop:=
 ∀(W W2:World) (v v1:Value) (l l1 out:List Int),M W v l out→0<l.length→l.Perm (l.getD 0 0::l1)→Hp l1→QuV W2 b base x0 x1 v1 x3 x4 l1→v1.ownBlock=v.ownBlock→
  (∀k,k<N0→k≠b→some k≠v.ownBlock→W2.heap[k]? =W.heap[k]?)→Below base W W2→
  Calls Tryz.prog F #[.pointer (some ⟨b,0,none⟩),.int .i64 (l.getD 0 0)] W2 fun e w'=>e= .returned (.tuple #[])∧∃v2 l2,M w' v2 l2 (out++[l.getD 0 0])∧Nxt W2 v1 v2∧
   (∀k,k<W2.heap.size→N0≤k→some k≠v1.ownBlock→w'.heap[k]? =W2.heap[k]?)∧Below base W2 w'
structure RunM (M:World→Value→List Int→List Int→Prop) (N0 b base T:Nat) (x0 x1 x3 x4:Value):Prop where
 qu:∀W v l out,M W v l out→QuV W b base x0 x1 v x3 x4 l∧Hp l∧out.length+l.length≤T
theorem run_l (M:World→Value→List Int→List Int→Prop) (F b base T:Nat) (HE:∀args W,(callFunc F args).run Tryz.prog W= .ok (.enter F args) W) (x0 x1 x3 x4 v:Value) (l:List Int) (w:World)
  (hT:T≤999999) (hbs:base≤b) (hR:RunM M w.heap.size b base T x0 x1 x3 x4) (hS:StepC M F w.heap.size b base x0 x1 x3 x4) (hM:M w v l []):
  Calls Tryz.prog 44 #[.pointer (some ⟨b,0,none⟩),.func (.func F) #[] #[]] w fun e w'=>∃v' out vq,e= .returned v'∧w'.ownsRow w.heap.size 3 1 v' out.length (out.map (Value.int .i64))∧M w' vq [] out∧Below base w w':=by
 have hb0:b<w.heap.size:=(hR.qu _ _ _ _ hM).1.lt
 have HM:=zk hM
 have HR:=zk hR
 have HS:=zk hS
 have CN:=zk (fun a n c W=>qLen_l a n c W)
 have CT:=zk (fun g c m l W h hl hm hp=>take_q b base g c m x0 x1 x3 x4 l W h hl hm hp)
 clear hM hR hS
 go_enter Tryz.func44,Tryz.ntmps44
 go_wp2_with fail
 go_loopw [5] (fun o wr=>∃(vq:Value) (lq out:List Int),Hid (M wr vq lq out)∧Hid (wr.ownsRow w.heap.size 3 1 o out.length (out.map (Value.int .i64)))∧Hid (o.ownBlock=none∨o.ownBlock≠vq.ownBlock)∧Hid (Below base w wr)) (fun o _=>T-lenV o)
 case atStart=>exact⟨v,l,[],HM,World.ownsRow_nil _ _ _ _,.inl rfl,Below.refl _ _⟩
 case round=>
  obtain⟨vq,lq,out,hM,hO,hD,hB⟩:=hrel
  obtain⟨Q0,hp,ht⟩:=(zq HR).qu _ _ _ _ (zq hM)
  obtain⟨-,-,c2,-⟩:=XX Q0.bk
  rcases Nat.eq_zero_or_pos lq.length with h0|h0
  ·obtain rfl:=List.eq_nil_of_length_eq_zero h0
   obtain⟨a,c,rfl⟩:∃a c,vq= .slice a 0 c:=by
    rcases id Q0.own.2 with ⟨e,-⟩|⟨g,cap,cur,e,-⟩
    ·exact⟨_,_,e⟩
    ·exact⟨_,_,e⟩
   clear Q0 hp h0 ht HS CT
   go_wp2_with fail
   refine(zq CN _ _ _ _).mono ?_
   rintro e w1 ⟨rfl,hw⟩
   subst hw
   go_wp2_with fail
   go_ret
   exact⟨_,out,_,rfl,zq hO,zq hM,zq hB⟩
  ·obtain⟨g,c,rfl,hr,hbg⟩:=Q0.row h0
   obtain⟨m,hm⟩:∃m,lq.length=m+1:=⟨lq.length-1,by omega⟩
   rw[hm]at Q0 hr c2 hM hD
   have hgl:=(Q0.own.lt g rfl).1
   have CT1:=zk (zq CT g c m lq wr Q0 hm (by omega) hp)
   have HS1:=zk (fun W2 l1 h1 h2 h3 h4 h5=>zq HS wr W2 _ (.slice (some ⟨g,0,none⟩) m c) lq l1 out (zq hM) (by omega) h1 h2 h3 rfl h4 h5)
   have b0:decide ((0:Int)<((m+1:Nat):Int))=true:=decide_eq_true (by omega)
   have b1:decide ((0:Int)<(m:Int)+1)=true:=decide_eq_true (by omega)
   have glt:g<wr.heap.size:=(Q0.own.lt g rfl).2
   have HT:=zk ht
   have HML:=zk hm
   clear Q0 hp hr h0 ht HS CT hm
   generalize lq.getD 0 0=x at*
   go_wp2_with fail
   refine(zq CN _ _ _ _).mono ?_
   rintro e w0 ⟨rfl,hw⟩
   subst hw
   go_wp2_with fail
   refine(zq CT1).mono ?_
   rintro e w1 ⟨rfl,l1,hperm,hp1,q1,k1⟩
   have ofar:∀go,u5.ownBlock=some go→w.heap.size≤go∧go<w0.heap.size∧go≠g:=fun go he=>by
    obtain⟨a1,a2⟩:=(zq hO).lt go he
    refine⟨a1,a2,fun e=> ?_⟩
    rcases zq hD with h|h
    ·rw[h]at he;cases he
    ·exact h (by rw[he,e];rfl)
   have hO1:=ju (zq hO) (w':=w1) (fun go he=>by
    obtain⟨a1,a2,a3⟩:=ofar go he
    exact k1.block go a2 (by omega) (fun e=>a3 (Option.some.inj e)))
   obtain⟨v',w2,hap,own2,gr2,at2⟩:=intk_append (hO1.alloc (.cells #[.int .i64 x] 3)) (by simp;have:=k1.size;have:=(zq hB).size;omega) (heap_alloc_new w1 (.cells #[.int .i64 x] 3)) (by have:=zq HT;omega)
   have s1:=k1.size
   have s2:=gr2.size
   simp only[World.size_alloc]at s2
   have hw0:=(zq hB).size
   have far2:∀k,k<w0.heap.size→k≠b→k≠g→some k≠u5.ownBlock→w2.heap[k]? =w0.heap[k]? :=fun k h1 h2 h3 h4=>
    (gr2.block k (by simp;omega) h4).trans ((heap_alloc_old w1 _ (by omega)).trans (k1.block k h1 h2 (fun e=>h3 (Option.some.inj e))))
   have at1:∀k,(k=b∨k=g)→w2.heap[k]? =w1.heap[k]? :=fun k hk=>
    (gr2.block k (by simp;rcases hk with rfl|rfl<;>omega) (fun e=>by
     obtain⟨a1,a2,a3⟩:=ofar k e.symm
     rcases hk with rfl|rfl
     ·omega
     ·exact a3 rfl)).trans (heap_alloc_old w1 _ (by rcases hk with rfl|rfl<;>omega))
   have q2:=q1.kept (w':=w2) (at1 b (.inl rfl)) (fun gg e=>by obtain rfl:=Option.some.inj e;exact at1 _ (.inr rfl))
   have bb2:Below base w0 w2:=⟨gr2.os.trans k1.os,gr2.tape.trans k1.tape,gr2.output.trans k1.output,by omega,fun k hk=>far2 k (by omega) (by omega) (by omega) (fun e=>by obtain⟨a1,-⟩:=ofar k e.symm;omega)⟩
   have HS2:=zk (zq HS1 w2 l1 hperm hp1 q2 (fun k h1 h2 h3=>far2 k (by omega) h2 (fun e=>h3 (by rw[e];rfl)) (fun e=>by obtain⟨a1,-⟩:=ofar k e.symm;omega)) bb2)
   have vfar:∀gv,v'.ownBlock=some gv→w.heap.size≤gv∧gv<w2.heap.size∧gv≠g:=fun gv he=>by
    obtain⟨a1,a2⟩:=own2.lt gv he
    refine⟨a1,a2,fun e=> ?_⟩
    rcases at2 with h|h
    ·rw[h]at he;exact(ofar gv he).2.2 e
    ·rw[h]at he
     have:=Option.some.inj he
     simp at this
     omega
   have OW2:=zk own2
   have VF:=zk vfar
   have BB2:=zk ((zq hB).trans bb2)
   have l5:=own_lenV (zq hO)
   clear CT1 HS1 c2 k1 hO1 own2 gr2 at2 far2 at1 q1 q2 bb2 ofar vfar hO hD hB hM hperm hp1 s1 s2 hw0 glt hgl
   go_wp2_with (at_builtin;refine app_runk rfl _ _ 26 26 rfl rfl _ _ rfl rfl hap ?_)
   refine(zq HS2).mono ?_
   rintro e w3 ⟨rfl,v2,l2,hM3,n3,k3,b3⟩
   have OW3:=zk (ju (zq OW2) (w':=w3) (fun gv he=>by
    obtain⟨a1,a2,a3⟩:=zq VF gv he
    exact k3 gv a2 a1 (fun e=>a3 (Option.some.inj e))))
   have HD3:Hid (v'.ownBlock=none∨v'.ownBlock≠v2.ownBlock):= .inr fun e=>by
    obtain⟨g',cap',e',-,-⟩:=(zq OW2).form (by omega)
    have he:v'.ownBlock=some g':=by rw[e'];rfl
    obtain⟨a1,a2,a3⟩:=zq VF g' he
    rcases n3 with h|⟨gg,h,hgg⟩
    ·rw[he,h]at e;exact a3 (Option.some.inj e)
    ·rw[he,h]at e;have:=Option.some.inj e;omega
   have HM3:=zk hM3
   have BB3:=zk ((zq BB2).trans b3)
   have l6:=own_lenV (zq OW3)
   clear HS2 hM3 n3 k3 b3 OW2 VF BB2 hap
   go_wp2_with fail
   refine⟨⟨v2,l2,out++[x],zq HM3,?_,zq HD3,zq BB3⟩,?_⟩
   ·show World.ownsRow _ _ _ _ _ _ _
    rw[List.length_append,List.length_singleton,List.map_append]
    exact zq OW3
   ·have:=zq HT
    have:=zq HML
    rw[l5,l6]
    omega
def Ns (w:World) (v:Value) (l:List Int):Prop:=∃a c,v= .slice a l.length c∧l.length≤c∧c≤maxLen∧∀j x,l[j]? =some x→∃g off,a=some ⟨g,off,none⟩∧g<w.heap.size∧w.cell? ⟨g,off+j,none⟩=some (.int .i64 x)
theorem Ns.of_own {w:World} {base:Nat} {v:Value} {l:List Int} (h:w.ownsRow base 3 1 v l.length (l.map (Value.int .i64))):Ns w v l:=by
 rcases id h.2 with ⟨rfl,h0⟩|⟨g,cap,cur,rfl,hb,hg,hn,hm,hsz,ht⟩
 ·refine⟨none,0,by rw[h0],by omega,Nat.zero_le _,fun j b hj=> ?_⟩
  have:=(List.getElem?_eq_some_iff.1 hj).1;omega
 ·refine⟨_,cap,rfl,hn,hm,fun j b hj=>⟨g,0,rfl,(Array.getElem?_eq_some_iff.1 hg).1,?_⟩⟩
  have hj':=(List.getElem?_eq_some_iff.1 hj).1
  rw[Nat.zero_add,World.ownsRow.cellAt h j (by omega),List.getElem?_map,hj];rfl
def EachC (E:World→Nat→Prop) (F1 F2:Nat) (r1 r2:Value) (l:List Int):Prop:=
 ∀(W:World) (k:Nat) (x:Int),l[k]? =some x→E W k→
  Calls Tryz.prog F1 #[r1,.int .i64 x] W fun e w1=>∃r,e= .returned (.bool r)∧(r=false→E w1 (k+1))∧
   (r=true→Calls Tryz.prog F2 #[r2,.int .i64 x] w1 fun e w2=>e= .returned (.tuple #[])∧E w2 (k+1))
theorem each_l (E:World→Nat→Prop) (F1 F2:Nat) (H1:∀args W,(callFunc F1 args).run Tryz.prog W= .ok (.enter F1 args) W) (H2:∀args W,(callFunc F2 args).run Tryz.prog W= .ok (.enter F2 args) W)
  (r1 r2 v:Value) (l:List Int) (w:World) (hl:l.length≤1000000) (hN:∀W k,E W k→Ns W v l) (hE:EachC E F1 F2 r1 r2 l) (h0:E w 0):
  Calls Tryz.prog 115 #[v,.func (.func F1) #[r1] #[],.func (.func F2) #[r2] #[]] w fun e w'=>e= .returned (.tuple #[])∧E w' l.length:=by
 obtain⟨a,c,rfl,hc1,hc2,-⟩:=hN _ _ h0
 unfold maxLen at hc2
 have HN:=zk hN
 have HE:=zk hE
 have H0:=zk h0
 clear hN hE h0
 go_enter Tryz.func115,Tryz.ntmps115
 go_wp2_with fail
 go_loopw [10] (fun i wr=>∃(k:Nat),k≤l.length∧i= .int .i64 (k:Int)∧Hid (E wr k)) (fun i _=>l.length-(intOf i).toNat)
 case atStart=>exact⟨0,Nat.zero_le _,rfl,H0⟩
 case round=>
  clear H0
  obtain⟨k,hk,rfl,hE⟩:=hrel
  by_cases hlt:k<l.length
  ·obtain⟨x,hx⟩:∃x,l[k]? =some x:=⟨l[k],by simp[hlt]⟩
   obtain⟨a',c',e',-,-,h3⟩:=zq HN _ _ (zq hE)
   injection e' with e1 e2 e3
   subst e1;subst e3
   obtain⟨g,off,rfl,hg,q0⟩:=h3 k x hx
   have CE:=zk (zq HE wr k x hx (zq hE))
   clear h3 e2 hx hE
   go_wp2_with fail
   refine(zq CE).mono ?_
   rintro e w1 ⟨r,rfl,hf,ht⟩
   clear CE
   cases r with
   |false=>
    have HF:=zk (hf rfl)
    clear hf ht
    go_wp2_with fail
    exact⟨⟨k+1,by omega,by simp,HF⟩,by simp[intOf];omega⟩
   |true=>
    have HT:=zk (ht rfl)
    clear hf ht
    go_wp2_with fail
    refine(zq HT).mono ?_
    rintro e w2 ⟨rfl,hE2⟩
    have HE2:=zk hE2
    clear HT hE2
    go_wp2_with fail
    exact⟨⟨k+1,by omega,by simp,HE2⟩,by simp[intOf];omega⟩
  ·obtain rfl:k=l.length:=by omega
   go_wp2_with fail
   refine bodyPost_end (results_none rfl _ _ _) rfl ?_
   exact⟨rfl,zq hE⟩
structure StM (b base:Nat) (x0 x1 x3 x4:Value) (l0:List Int) (W:World) (v:Value) (l out:List Int):Prop where
 qu:QuV W b base x0 x1 v x3 x4 l
 hp:Hp l
 pm:(out++l).Perm l0
 up:out.Pairwise (· ≤ ·)
 le:∀x∈out,∀y∈l,x≤y
theorem StM.run {b base:Nat} {x0 x1 x3 x4:Value} {l0:List Int} (N0:Nat):RunM (StM b base x0 x1 x3 x4 l0) N0 b base l0.length x0 x1 x3 x4:=
 ⟨fun W v l out h=>⟨h.qu,h.hp,by have:=h.pm.length_eq;rw[List.length_append]at this;omega⟩⟩
theorem stay_l (v:Value) (x:Int) (w:World):Calls Tryz.prog 45 #[v,.int .i64 x] w fun e w'=>e= .returned (.tuple #[])∧w'=w:=by
 go_enter Tryz.func45,Tryz.ntmps45
 go_wp2_with fail
 refine bodyPost_end (results_none rfl _ _ _) rfl ?_
 exact⟨rfl,rfl⟩
theorem stay_step (b base N0:Nat) (x0 x1 x3 x4:Value) (l0:List Int):StepC (StM b base x0 x1 x3 x4 l0) 45 N0 b base x0 x1 x3 x4:=by
 intro W W2 v v1 l l1 out hM hl hperm hp1 hq hv hfar hbel
 refine(stay_l _ _ _).mono ?_
 rintro e w' ⟨rfl,rfl⟩
 have hx:l.getD 0 0∈l:=hperm.symm.subset List.mem_cons_self
 have hmem:∀y∈l1,y∈l:=fun y hy=>hperm.symm.subset (List.mem_cons_of_mem _ hy)
 refine⟨rfl,v1,l1,⟨hq,hp1,?_,?_,fun z hz y hy=> ?_⟩,Nxt.refl _ _,fun k _ _ _=>rfl,Below.refl _ _⟩
 ·rw[List.append_assoc]
  exact(List.Perm.append_left out hperm.symm).trans hM.pm
 ·rw[List.pairwise_append]
  exact⟨hM.up,List.pairwise_singleton _ _,fun a ha c hc=>by simp at hc;subst hc;exact hM.le a ha _ hx⟩
 ·rcases List.mem_append.1 hz with hz|hz
  ·exact hM.le z hz y (hmem y hy)
  ·simp at hz;subst hz;exact hM.hp.least_mem y (hmem y hy)
theorem enterK {f:FuncId} {fn:Func} {c:Code} (hf:Tryz.prog.funcs[f]? =some fn) (hname:(fn.name== "runtime.NumGoroutine")=false) (hb:fn.body=some c) (args:Array Value) (w:World):(callFunc f args).run Tryz.prog w= .ok (.enter f args) w:=by
 have h1:fn.name≠ "runtime.NumGoroutine" :=by simpa using hname
 simp[callFunc,hf,h1,hb]
theorem Ns.src {w:World} {a:Option Addr} {n c:Nat} {l:List Int} (h:Ns w (.slice a n c) l) (hn:0<n):l.length=n∧n≤c∧c≤maxLen∧∃ad,a=some ad∧ad.block<w.heap.size∧∀(j:Nat) (u:Value),(l.map (Value.int .i64))[j]? =some u→w.cell? (ad.add j)=some u:=by
 obtain⟨a',c',e,h1,h2,h3⟩:=h
 injection e with e1 e2 e3
 subst e1;subst e2;subst e3
 obtain⟨g,off,rfl,hg,-⟩:=h3 0 l[0] (by simp)
 refine⟨rfl,h1,h2,_,rfl,hg,fun j u hu=> ?_⟩
 rw[List.getElem?_map]at hu
 cases hj:l[j]? with
 |none=>rw[hj]at hu;cases hu
 |some x=>
  rw[hj]at hu
  simp at hu
  subst hu
  obtain⟨g',off',e,-,q⟩:=h3 j x hj
  injection e with e
  injection e with e1 e2
  subst e1;subst e2
  rw[Addr.add_mid];exact q
theorem clone_l (v:Value) (l:List Int) (w:World) (h:Ns w v l) (hl:l.length≤1000000):
  Calls Tryz.prog 42 #[v] w fun e w'=>∃v',e= .returned v'∧w'.ownsRow w.heap.size 3 1 v' l.length (l.map (Value.int .i64))∧Below w.heap.size w w':=by
 obtain⟨a,c,rfl,hc1,hc2,-⟩:=id h
 have HN:=zk h
 unfold maxLen at hc2
 clear h
 cases a with
 |none=>
  have hl0:l.length=0:=by
   rcases Nat.eq_zero_or_pos l.length with h|h
   ·exact h
   ·obtain⟨-,-,-,ad,e,-⟩:=(zq HN).src h;cases e
  obtain rfl:=List.eq_nil_of_length_eq_zero hl0
  have heq:∀W,(binOp .eql 26 (.slice none 0 c) (.slice none 0 0)).run Tryz.prog W= .ok (.bool true) W:=fun W=>by kernel_rfl
  go_enter Tryz.func42,Tryz.ntmps42
  go_wp2_with fail
  go_ret
  exact⟨_,rfl,World.ownsRow_nil _ _ _ _,Below.refl _ _⟩
 |some ad=>
  obtain⟨i0,hi0,hz0,hz1,hz2⟩:=infoT intT_info
  have HNW:∀o,∀(j:Nat) (u:Value),(l.map (Value.int .i64))[j]? =some u→(w.alloc o).cell? (ad.add j)=some u:=by
   intro o j u hu
   have hj:0<l.length:=by
    rcases Nat.eq_zero_or_pos l.length with h|h
    ·rw[List.eq_nil_of_length_eq_zero h]at hu;simp at hu
    ·exact h
   obtain⟨-,-,-,ad',e,hlt,h3⟩:=(zq HN).src hj
   injection e with e
   subst e
   have q:=h3 j u hu
   have eb:(ad.add j).block=ad.block:=by unfold Addr.add;split<;>rfl
   rw[World.cell?_of_block ((Below.new1 o).block _ (by rw[eb];exact hlt))]
   exact q
  have heq:∀W,(binOp .eql 26 (.slice (some ad) l.length c) (.slice none 0 0)).run Tryz.prog W= .ok (.bool false) W:=fun W=>by kernel_rfl
  have HO:∀w:World,(w.alloc (.cells #[] 3)).ownsRow w.heap.size 3 1 (.slice (some ⟨w.heap.size,0,none⟩) 0 0) 0 []:=fun w=>World.ownsRow_made w #[] 0 (Nat.le_refl _) (Nat.zero_le _) rfl
  have h1:∀u∈l.map (Value.int .i64),u.oneCell'=true:=fun u hu=>by
   obtain⟨x,-,rfl⟩:=List.mem_map.1 hu;rfl
  go_enter Tryz.func42,Tryz.ntmps42
  go_wp2_with (at_builtin;refine wpList_append_own _ rfl _ _ 26 rfl w.heap.size 3 i0 _ 1 8 Tryz.underlying26 hi0 hz0 hz1 hz2 rfl (by omega) _ _ _ rfl (HO w) ad l.length c (l.map (Value.int .i64)) rfl (by simp) (HNW _) h1 (by unfold maxLen;omega) (by omega) (by simp) ?_;intro v' w6 hown1 hgrow hnil)
  go_ret
  rw[Nat.zero_add,List.nil_append]at hown1
  have hg2:(w.alloc (.cells #[] 3)).grownBy w6 (some w.heap.size):=hgrow
  have B6:Below w.heap.size w w6:=(Below.new1 _).grown hg2 (by simp) (fun k hk=>by injection hk;omega)
  exact⟨v',rfl,hown1,B6⟩
theorem Xj {w:World} {base z n:Nat} {t:TypeId} {v:Value} {xs:List Value} (h:w.ownsRow base t z v n xs) {g:Nat} (hg:v.ownBlock=some g):base≤g∧g<w.heap.size:=by
 rcases h.2 with ⟨rfl,-⟩|⟨g',cap,cur,rfl,hb,hk,-⟩
 ·cases hg
 ·cases hg;exact⟨hb,(Array.getElem?_eq_some_iff.1 hk).1⟩
theorem own_lat {w w':World} {base z n:Nat} {t:TypeId} {v:Value} {xs:List Value} (k:Below w.heap.size w w') (h:w.ownsRow base t z v n xs):w'.ownsRow base t z v n xs:=
 ju h (fun g hg=>k.block g (Xj h hg).2)
theorem Xi {w:World} {base b2 z n:Nat} {t:TypeId} {v:Value} {xs:List Value} (h:w.ownsRow base t z v n xs) (hb:b2≤base):w.ownsRow b2 t z v n xs:=by
 refine⟨h.1,?_⟩
 rcases h.2 with h|⟨g,cap,cur,e,hk,r⟩
 ·exact .inl h
 ·exact .inr ⟨g,cap,cur,e,Nat.le_trans hb hk,r⟩
theorem qs_below {w w1 w2:World} {B b:Nat} {v:Value} (h:Below B w w1) (k:Qs b v w1 w2) (hb:B≤b) (hs:B≤w1.heap.size) (hv:∀g,v.ownBlock=some g→B≤g):Below B w w2:=by
 refine⟨k.os.trans h.os,k.tape.trans h.tape,k.output.trans h.output,Nat.le_trans h.size k.size,fun i hi=> ?_⟩
 exact(k.block i (by omega) (by omega) (fun e=>by have:=hv i e.symm;omega)).trans (h.block i hi)
theorem Xa {w:World} {base z n:Nat} {t:TypeId} {v:Value} {xs:List Value} (h:w.ownsRow base t z v n xs):∃a n c,v= .slice a n c:=by
 rcases h.2 with ⟨rfl,-⟩|⟨g,cap,cur,rfl,-⟩
 ·exact⟨_,_,_,rfl⟩
 ·exact⟨_,_,_,rfl⟩
theorem first_l (v:Value) (l:List Int) (w:World) (h:Ns w v l) (hl:l.length≤900000):
  Calls Tryz.prog 19 #[v] w fun e w'=>∃(v':Value) (out:List Int),e= .returned v'∧w'.ownsRow w.heap.size 3 1 v' out.length (out.map (Value.int .i64))∧out.Perm l∧out.Pairwise (· ≤ ·)∧Below w.heap.size w w':=by
 have CC:=zk (fun W (bW:Below w.heap.size w W)=>clone_l v l W (by
  obtain⟨a,c,e,h1,h2,h3⟩:=h
  exact⟨a,c,e,h1,h2,fun j x hj=>by
   obtain⟨g,off,e,hg,q⟩:=h3 j x hj
   exact⟨g,off,e,Nat.lt_of_lt_of_le hg bW.size,(bW.cell (p:=⟨g,off+j,none⟩) hg).trans q⟩⟩) (by omega))
 obtain⟨a,c,rfl,-,-,-⟩:=id h
 have HE:∀args W,(callFunc 45 args).run Tryz.prog W= .ok (.enter 45 args) W:=enterK Tryz.func45 (by kernel_rfl) rfl
 go_enter Tryz.func19,Tryz.ntmps19
 go_wp2_with fail
 all_goals (refine(zq CC _ (by first|exact Below.refl _ _|exact Below.new1 _)).mono ?_;rintro e w1 ⟨v1,rfl,O1,B1⟩)
 all_goals (obtain⟨a1,n1,c1,rfl⟩:=Xa O1)
 all_goals (go_wp2_with fail)
 have hb1:w.heap.size≤w1.heap.size:=B1.size
 have HO:=zk O1
 have HB1:=zk B1
 have QI:QuV (w1.alloc (.cells #[.slice none 0 0,.slice none 0 0,.slice a1 n1 c1,.slice none 0 0,.slice none 0 0] 68)) w1.heap.size w.heap.size (.slice none 0 0) (.slice none 0 0) (.slice a1 n1 c1) (.slice none 0 0) (.slice none 0 0) l:=by
  refine⟨heap_alloc_new _ _,own_lat (Below.new1 _) O1,fun e=> ?_⟩
  exact absurd (Xj O1 e).2 (Nat.lt_irrefl _)
 have CI:=zk (fun W (hW:QuV W w1.heap.size w.heap.size (.slice none 0 0) (.slice none 0 0) (.slice a1 n1 c1) (.slice none 0 0) (.slice none 0 0) l)=>init_l _ _ _ _ _ _ _ l W hW (by omega))
 refine(zq CI _ QI).mono ?_
 rintro e w2 ⟨rfl,l',hp,hh,Q2,S2⟩
 clear O1 B1
 go_wp2_with fail
 refine(run_l _ 45 w1.heap.size w.heap.size l.length HE _ _ _ _ _ l' w2 (by omega) hb1 (StM.run _) (stay_step _ _ _ _ _ _ _ l) ⟨Q2,hh,by simpa using hp,List.Pairwise.nil,fun x hx=>by cases hx⟩).mono ?_
 rintro e w3 ⟨v',out,vq,rfl,O3,M3,B3⟩
 go_wp2_with fail
 go_ret
 have hS:w.heap.size≤w2.heap.size:=by have:=S2.size;simp at this;omega
 refine⟨v',out,rfl,Xi O3 hS,by simpa using M3.pm,M3.up,?_⟩
 exact(qs_below ((zq HB1).alloc (by omega) _) S2 hb1 (by simp;omega) (fun g hg=>(Xj (zq HO) hg).1)).trans B3
def BR (w:World) (base g n c:Nat) (l:List Bool):Prop:=w.ownsRow base 4 1 (.slice (some ⟨g,0,none⟩) n c) n (l.map Value.bool)
theorem BR.len {w:World} {base g n c:Nat} {l:List Bool} (h:BR w base g n c l):l.length=n:=by have:=h.1;simpa using this
theorem BR.set {w:World} {base g n c:Nat} {l:List Bool} (h:BR w base g n c l) (i:Nat) (x:Bool):BR (w.setCell ⟨g,i,none⟩ (.bool x)) base g n c (l.set i x):=by
 refine⟨by simpa using h.1,?_⟩
 rcases h.2 with ⟨e,-⟩|⟨g',cap,cur,e,hb,hc,hn,hm,hs,ht⟩
 ·cases e
 ·cases e
  have:=heap_setCell_same w g i _ _ (.bool x) hc
  refine .inr ⟨g,c,cur.setIfInBounds i (.bool x),rfl,hb,this,hn,hm,by simp[hs],?_⟩
  rw[List.map_set,←ht]
  simp[List.take_set]
theorem BR.at {w:World} {base g n c:Nat} {l:List Bool} (h:BR w base g n c l) {i:Nat} (hi:i<n):w.cell? ⟨g,i,none⟩=some (.bool (l.getD i false)):=by
 have hl:=h.len
 rw[World.ownsRow.cellAt h i (by omega),List.getElem?_map,List.getD_eq_getElem?_getD,List.getElem?_eq_getElem (by omega)];rfl
theorem BR.fz {w:World} {base g n c:Nat} {l:List Bool} (h:BR w base g n c l) (i:Nat):w.frozen? ⟨g,i,none⟩=false:=by
 rcases h.2 with ⟨e,-⟩|⟨g',cap,cur,e,hb,hc,-⟩
 ·cases e
 ·cases e
  simp[World.frozen?,hc]
theorem BR.kept {w w':World} {base g n c:Nat} {l:List Bool} (h:BR w base g n c l) (k:w'.heap[g]? =w.heap[g]?):BR w' base g n c l:=
 ju h (fun g' e=>by have:=Option.some.inj e;subst this;exact k)
theorem waits_l (b gw n c x base:Nat) (L:List Int) (x0 x1 x2 x4:Value) (w:World) (hb:w.heap[b]? =some (.cells #[x0,x1,x2,.slice (some ⟨gw,0,none⟩) n c,x4] 68)) (hx:x<n) (hn:n≤1000000) (hbg:b≠gw)
  (hq:QR w base gw n c L) (hy0:0≤L.getD x 0) (hy1:L.getD x 0≤1000000):
  Calls Tryz.prog 116 #[.pointer (some ⟨b,0,none⟩),.int .i64 x] w fun e w'=>e= .returned (.bool (decide (L.getD x 0=1)))∧w'=w.setCell ⟨gw,x,none⟩ (.int .i64 (L.getD x 0-1)):=by
 obtain⟨-,-,-,c3,-⟩:=XX hb
 have hc:=hq.at hx
 have hz:=hq.fz x
 have hz1:=(hq.set x (L.getD x 0-1)).1.fz x
 have cx':=(hq.set x (L.getD x 0-1)).1.at hx
 have hl:=hq.len
 rw[show(L.set x (L.getD x 0-1)).getD x 0=L.getD x 0-1 by simp[List.getD,List.getElem?_set,show x<L.length by omega]]at cx'
 generalize L.getD x 0=y at*
 have c3':(w.setCell ⟨gw,x,none⟩ (.int .i64 (y-1))).cell? ⟨b,3,none⟩=some (.slice (some ⟨gw,0,none⟩) n c):=by
  rw[World.cell?_of_block (heap_setCell_other w ⟨gw,x,none⟩ b _ hbg)];exact c3
 clear hq hb hl
 go_enter Tryz.func116,Tryz.ntmps116
 go_wp2_with fail
 go_ret
 have eb:(y-1==0)=decide (y=1):=by rw[Bool.eq_iff_iff];simp;omega
 exact⟨by show Ending.returned (.bool (y-1==0))=_;rw[eb],rfl⟩
theorem isNew_l (b gw n c x base:Nat) (L:List Bool) (x0 x1 x2 x3:Value) (w:World) (hb:w.heap[b]? =some (.cells #[x0,x1,x2,x3,.slice (some ⟨gw,0,none⟩) n c] 68)) (hx:x<n) (hn:n≤1000000) (hbg:b≠gw)
  (hq:BR w base gw n c L):
  Calls Tryz.prog 166 #[.pointer (some ⟨b,0,none⟩),.int .i64 x] w fun e w'=>e= .returned (.bool (!(L.getD x false)))∧w'=w.setCell ⟨gw,x,none⟩ (.bool true):=by
 obtain⟨-,-,-,-,c4,-⟩:=XX hb
 have hc:=hq.at hx
 have hz:=hq.fz x
 generalize L.getD x false=y at*
 clear hq hb
 go_enter Tryz.func166,Tryz.ntmps166
 go_wp2_with fail
 go_ret
 exact⟨rfl,rfl⟩
def NsB (B:Nat) (w:World) (v:Value) (l:List Int):Prop:=∃a c,v= .slice a l.length c∧l.length≤c∧c≤maxLen∧∀j x,l[j]? =some x→∃g off,a=some ⟨g,off,none⟩∧g<B∧w.cell? ⟨g,off+j,none⟩=some (.int .i64 x)
theorem NsB.later {B:Nat} {w w':World} {v:Value} {l:List Int} (h:NsB B w v l) (k:Below B w w'):NsB B w' v l:=by
 obtain⟨a,c,e,h1,h2,h3⟩:=h
 refine⟨a,c,e,h1,h2,fun j x hj=> ?_⟩
 obtain⟨g,off,e,hg,q⟩:=h3 j x hj
 exact⟨g,off,e,hg,by rw[World.cell?_of_block (k.block g hg)];exact q⟩
theorem NsB.ns {B:Nat} {w:World} {v:Value} {l:List Int} (h:NsB B w v l) (hB:B≤w.heap.size):Ns w v l:=by
 obtain⟨a,c,e,h1,h2,h3⟩:=h
 refine⟨a,c,e,h1,h2,fun j x hj=> ?_⟩
 obtain⟨g,off,e,hg,q⟩:=h3 j x hj
 exact⟨g,off,e,by omega,q⟩
def KvB (B:Nat) (w:World) (v:Value) (L:List (List Int)):Prop:=∃a c,v= .slice a L.length c∧L.length≤c∧c≤maxLen∧∀j l,L[j]? =some l→∃g off u,a=some ⟨g,off,none⟩∧g<B∧w.cell? ⟨g,off+j,none⟩=some u∧NsB B w u l
theorem KvB.later {B:Nat} {w w':World} {v:Value} {L:List (List Int)} (h:KvB B w v L) (k:Below B w w'):KvB B w' v L:=by
 obtain⟨a,c,e,h1,h2,h3⟩:=h
 refine⟨a,c,e,h1,h2,fun j x hj=> ?_⟩
 obtain⟨g,off,u,e,hg,q,hu⟩:=h3 j x hj
 exact⟨g,off,u,e,hg,by rw[World.cell?_of_block (k.block g hg)];exact q,hu.later k⟩
theorem NsB.mono {B B':Nat} {w:World} {v:Value} {l:List Int} (h:NsB B w v l) (hB:B≤B'):NsB B' w v l:=by
 obtain⟨a,c,e,h1,h2,h3⟩:=h
 refine⟨a,c,e,h1,h2,fun j x hj=> ?_⟩
 obtain⟨g,off,e,hg,q⟩:=h3 j x hj
 exact⟨g,off,e,by omega,q⟩
theorem KvB.mono {B B':Nat} {w:World} {v:Value} {L:List (List Int)} (h:KvB B w v L) (hB:B≤B'):KvB B' w v L:=by
 obtain⟨a,c,e,h1,h2,h3⟩:=h
 refine⟨a,c,e,h1,h2,fun j x hj=> ?_⟩
 obtain⟨g,off,u,e,hg,q,hu⟩:=h3 j x hj
 exact⟨g,off,u,e,by omega,q,hu.mono hB⟩
structure Sp (S0:List Bool) (l0:List Int) (S:List Bool) (l:List Int) (ys:List Int):Prop where
 len:S.length=S0.length
 seen:∀x:Nat,S.getD x false=(S0.getD x false||decide ((x:Int)∈ys))
 add:∃add,l.Perm (l0++add)∧add.Nodup∧add.length≤ys.length∧∀x,x∈add↔x∈ys∧S0.getD x.toNat false=false
theorem Sp.nil (S0:List Bool) (l0:List Int):Sp S0 l0 S0 l0 []:=
 ⟨rfl,fun x=>by simp,[],by simp,List.nodup_nil,Nat.le_refl _,fun x=>by simp⟩
theorem Sp.size {S0 S:List Bool} {l0 l ys:List Int} (h:Sp S0 l0 S l ys):l.length≤l0.length+ys.length:=by
 obtain⟨add,hp,-,hl,-⟩:=h.add
 have:=hp.length_eq
 rw[List.length_append]at this;omega
theorem Sp.old {S0 S:List Bool} {l0 l ys:List Int} (h:Sp S0 l0 S l ys) {y:Nat} (hy:S.getD y false=true):Sp S0 l0 S l (ys++[(y:Int)]):=by
 obtain⟨add,hp,hd,hl,hm⟩:=h.add
 have hs:=h.seen y
 rw[hy]at hs
 refine⟨h.len,fun x=> ?_,add,hp,hd,by simp;omega,fun x=> ?_⟩
 ·rw[h.seen x]
  by_cases hx:x=y
  ·subst hx
   have:S0.getD x false=true∨((x:Int)∈ys):=by simpa using hs.symm
   rcases this with k|k
   ·rw[k];simp
   ·simp[k]
  ·have:((x:Int)=(y:Int))↔False:=⟨fun e=>hx (by omega),fun e=>e.elim⟩
   simp[this]
 ·rw[hm x]
  constructor
  ·rintro⟨h1,h2⟩;exact⟨List.mem_append_left _ h1,h2⟩
  ·rintro⟨h1,h2⟩
   refine⟨?_,h2⟩
   rcases List.mem_append.1 h1 with h1|h1
   ·exact h1
   ·simp at h1;subst h1
    have:S0.getD y false=true∨((y:Int)∈ys):=by simpa using hs.symm
    rcases this with k|k
    ·rw[show((y:Int)).toNat=y from rfl,k]at h2;cases h2
    ·exact k
theorem Sp.new {S0 S:List Bool} {l0 l l' ys:List Int} (h:Sp S0 l0 S l ys) {y:Nat} (hy:S.getD y false=false) (hlt:y<S0.length) (hp':l'.Perm ((y:Int)::l)):Sp S0 l0 (S.set y true) l' (ys++[(y:Int)]):=by
 obtain⟨add,hp,hd,hl,hm⟩:=h.add
 have hs:=h.seen y
 rw[hy]at hs
 have hs0:S0.getD y false=false∧¬((y:Int)∈ys):=by simpa using hs.symm
 have hlen:=h.len
 refine⟨by simp[hlen],fun x=> ?_,add++[(y:Int)],?_,?_,by simp;omega,fun x=> ?_⟩
 ·have e:(S.set y true).getD x false=if x=y then true else S.getD x false:=by
   simp only[List.getD_eq_getElem?_getD,List.getElem?_set]
   by_cases hx:y=x
   ·subst hx;simp[hlen,hlt]
   ·rw[if_neg hx,if_neg (fun e=>hx e.symm)]
  rw[e,h.seen x]
  by_cases hx:x=y
  ·subst hx;simp
  ·have:((x:Int)=(y:Int))↔False:=⟨fun e=>hx (by omega),fun e=>e.elim⟩
   simp[hx,this]
 ·refine hp'.trans ?_
  rw[←List.append_assoc]
  exact(List.Perm.cons _ hp).trans (List.perm_append_singleton _ _).symm
 ·rw[List.nodup_append]
  refine⟨hd,by simp,fun a ha c hc e=> ?_⟩
  simp at hc;subst hc;subst e
  exact hs0.2 ((hm _).1 ha).1
 ·rw[List.mem_append,hm x]
  constructor
  ·rintro(⟨h1,h2⟩|h1)
   ·exact⟨List.mem_append_left _ h1,h2⟩
   ·simp at h1;subst h1
    exact⟨by simp,by simpa using hs0.1⟩
  ·rintro⟨h1,h2⟩
   rcases List.mem_append.1 h1 with h1|h1
   ·exact .inl ⟨h1,h2⟩
   ·exact .inr h1
def SpW (b B gs n c:Nat) (x0 x1 x3 v0:Value) (S0:List Bool) (l0:List Int) (w:World) (W:World) (ys:List Int):Prop:=
 ∃v l S,QuV W b B x0 x1 v x3 (.slice (some ⟨gs,0,none⟩) n c) l∧Hp l∧BR W B gs n c S∧v.ownBlock≠some gs∧Sp S0 l0 S l ys∧Below B w W∧Nxt w v0 v∧
  ∀k,k<w.heap.size→k≠b→k≠gs→some k≠v0.ownBlock→W.heap[k]? =w.heap[k]?
theorem spread_step (b B gs n c:Nat) (x0 x1 x3 v0:Value) (S0:List Bool) (l0 ys:List Int) (w:World) (hbg:b≠gs) (hBb:B≤b) (hBg:B≤gs) (hlen:l0.length+ys.length≤999999) (hn:n≤1000000) (hS0:S0.length=n) (hv0:∀g,v0.ownBlock=some g→g<w.heap.size)
  (hy:∀y∈ys,∃m:Nat,y=(m:Int)∧m<n) (hgw:gs<w.heap.size) (hbw:b<w.heap.size):EachC (fun W k=>SpW b B gs n c x0 x1 x3 v0 S0 l0 w W (ys.take k)) 166 68 (.pointer (some ⟨b,0,none⟩)) (.pointer (some ⟨b,2,none⟩)) ys:=by
 intro W k y hk ⟨v,l,S,hq,hp,hS,hne,hsp,hb,hx,far⟩
 obtain⟨m,rfl,hm⟩:=hy y (List.mem_of_getElem? hk)
 have hBW:B≤W.heap.size:=Nat.le_trans hBb (Nat.le_of_lt hq.lt)
 have hk1:ys.take (k+1)=ys.take k++[(m:Int)]:=by rw[List.take_add_one,hk];rfl
 have hsl:=hS.len
 refine(isNew_l b gs n c m B S x0 x1 v x3 W hq.bk hm hn hbg hS).mono ?_
 rintro e w1 ⟨rfl,hw⟩
 have keep:∀k,k≠gs→w1.heap[k]? =W.heap[k]? :=fun k hk=>by rw[hw];exact heap_setCell_other W ⟨gs,m,none⟩ k _ (by simpa using hk)
 have hS1:BR w1 B gs n c (S.set m true):=by rw[hw];exact hS.set m true
 have hsz:w1.heap.size=W.heap.size:=by rw[hw];simp
 have hq1:QuV w1 b B x0 x1 v x3 (.slice (some ⟨gs,0,none⟩) n c) l:=hq.kept (keep b hbg) (fun g hg=>keep g (fun e=>hne (by rw[hg,e])))
 have hb1:Below B w w1:=hb.trans (by rw[hw];exact⟨rfl,rfl,rfl,by simp,fun k hk=>heap_setCell_other W ⟨gs,m,none⟩ k _ (by simp;omega)⟩)
 have far1:∀k,k<w.heap.size→k≠b→k≠gs→some k≠v0.ownBlock→w1.heap[k]? =w.heap[k]? :=fun k h1 h2 h3 h4=>(keep k h3).trans (far k h1 h2 h3 h4)
 have hsz0:=hb.size
 clear hw
 refine⟨_,rfl,fun hr=> ?_,fun hr=> ?_⟩
 ·have hs:S.getD m false=true:=by simpa using hr
  have e:S.set m true=S:=by
   apply List.ext_getElem?
   intro i
   rw[List.getElem?_set]
   by_cases hi:m=i
   ·subst hi
    rw[if_pos rfl,if_pos (by omega)]
    rw[List.getD_eq_getElem?_getD,List.getElem?_eq_getElem (by omega)]at hs
    rw[List.getElem?_eq_getElem (by omega)]
    simpa using hs.symm
   ·rw[if_neg hi]
  rw[e]at hS1
  exact⟨v,l,S,hq1,hp,hS1,hne,by rw[hk1];exact hsp.old hs,hb1,hx,far1⟩
 ·have hs:S.getD m false=false:=by simpa using hr
  have hl:=hsp.size
  rw[List.length_take]at hl
  refine(put_l b B x0 x1 v x3 (.slice (some ⟨gs,0,none⟩) n c) l m w1 hq1 (by omega) (by omega) hp).mono ?_
  rintro e w2 ⟨rfl,v',l',hp',hh',hq',hQ,hx'⟩
  have hgs2:w2.heap[gs]? =w1.heap[gs]? :=hQ.block gs (by omega) (fun e=>hbg e.symm) (fun e=>hne e.symm)
  refine⟨rfl,v',l',S.set m true,hq',hh',hS1.kept hgs2,?_,by rw[hk1];exact hsp.new hs (by omega) hp',?_,hx.then (w1:=w1) hx' (by omega),?_⟩
  ·rcases hx' with h|⟨g,h,hg⟩
   ·rw[h];exact hne
   ·rw[h];intro e;have:=Option.some.inj e;omega
  ·exact qs_below hb1 hQ hBb (by omega) (fun g hg=>(Xj hq.own hg).1)
  ·intro k h1 h2 h3 h4
   refine(hQ.block k (by omega) h2 (fun e=> ?_)).trans (far1 k h1 h2 h3 h4)
   rcases hx with h|⟨g,h,hg⟩
   ·rw[h]at e;exact h4 e
   ·rw[h]at e;have:=Option.some.inj e;omega
theorem spread_l (b B gs n c q:Nat) (x0 x1 x3 v0:Value) (S0:List Bool) (l0 ys:List Int) (L:List (List Int)) (w:World) (hq:QuV w b B x0 x1 v0 x3 (.slice (some ⟨gs,0,none⟩) n c) l0) (hp:Hp l0) (hS:BR w B gs n c S0) (hne:v0.ownBlock≠some gs)
  (hL:KvB B w x0 L) (hys:L[q]? =some ys) (hbg:b≠gs) (hBb:B≤b) (hlen:l0.length+ys.length≤999999) (hn:n≤1000000) (hy:∀y∈ys,∃m:Nat,y=(m:Int)∧m<n):
  Calls Tryz.prog 121 #[.pointer (some ⟨b,0,none⟩),.int .i64 (q:Int)] w fun e w'=>e= .returned (.tuple #[])∧SpW b B gs n c x0 x1 x3 v0 S0 l0 w w' ys:=by
 have hbw:=hq.lt
 have hgi:=Xj hS (rfl:(Value.slice (some ⟨gs,0,none⟩) n c).ownBlock=some gs)
 have ST:=zk (spread_step b B gs n c x0 x1 x3 v0 S0 l0 ys w hbg hBb hgi.1 hlen hn hS.len (fun g hg=>(Xj hq.own hg).2) hy hgi.2 hbw)
 have HE1:∀args W,(callFunc 166 args).run Tryz.prog W= .ok (.enter 166 args) W:=enterK Tryz.func166 (by kernel_rfl) rfl
 have HE2:∀args W,(callFunc 68 args).run Tryz.prog W= .ok (.enter 68 args) W:=enterK Tryz.func68 (by kernel_rfl) rfl
 obtain⟨c0,-,-,-,-,-⟩:=XX hq.bk
 obtain⟨a,cL,rfl,hL1,hL2,h3⟩:=id hL
 obtain⟨g,off,u,rfl,hg,qu,hu⟩:=h3 q ys hys
 have hqL:q<L.length:=(List.getElem?_eq_some_iff.1 hys).1
 unfold maxLen at hL2
 have HU:=zk hu
 have W0:=zk (show SpW b B gs n c _ x1 x3 v0 S0 l0 w w.drew [] from⟨v0,l0,S0,⟨hq.bk,hq.own,hq.ne⟩,hp,hS,hne,Sp.nil _ _,(Below.refl _ _).drew,Nxt.refl _ _,fun _ _ _ _ _=>rfl⟩)
 have CE:=zk (each_l (fun W k=>SpW b B gs n c _ x1 x3 v0 S0 l0 w W (ys.take k)) 166 68 HE1 HE2 (.pointer (some ⟨b,0,none⟩)) (.pointer (some ⟨b,2,none⟩)) u ys w.drew (by omega) (fun W k hE=>by
  obtain⟨v,l,S,hq',-,-,-,-,hb',-,-⟩:=hE
  exact(hu.later hb').ns (Nat.le_trans hBb (Nat.le_of_lt hq'.lt))) (zq ST) (zq W0))
 rw[List.take_length]at CE
 clear ST W0 hu HU hL h3 hys hy hq hp hS hne HE1 HE2
 go_enter Tryz.func121,Tryz.ntmps121
 refine wp_region_held_drew (S:=(fun w'=>w'.cell? ⟨b,0,none⟩=some (.slice (some ⟨g,off,none⟩) L.length cL)∧w'.cell? ⟨g,off+q,none⟩=some u)) (by kernel_rfl) ⟨c0,qu⟩ (fun hHeld=> ?_)
 refine tkh 0 ?_ rfl (by kernel_rfl) (fun _ _ _ h=>h) ?_ (by assumption) ?_
 rotate_left
 ·intro w hSw;obtain⟨y0,y1⟩:=hSw;go_simp;(try with_reducible rfl)
 refine tkh 1 ?_ rfl (by kernel_rfl) (fun _ _ _ h=>h) ?_ (by assumption) ?_
 rotate_left
 ·intro w hSw;obtain⟨y0,y1⟩:=hSw;go_simp;(try with_reducible rfl)
 refine tkh 2 ?_ rfl (by kernel_rfl) (fun _ _ _ h=>h) ?_ (by assumption) ?_
 rotate_left
 ·intro w hSw;obtain⟨y0,y1⟩:=hSw;go_simp;(try with_reducible rfl)
 refine tkh 3 ?_ rfl (by kernel_rfl) (fun _ _ _ h=>h) ?_ (by assumption) ?_
 rotate_left
 ·intro w hSw;obtain⟨y0,y1⟩:=hSw;go_simp;(try with_reducible rfl)
 refine tkh 4 ?_ rfl (by kernel_rfl) (fun _ _ _ h=>h) ?_ (by assumption) ?_
 rotate_left
 ·intro w hSw;obtain⟨y0,y1⟩:=hSw;go_simp;(try with_reducible rfl)
 refine tkh 5 ?_ rfl (by kernel_rfl) (fun _ _ _ h=>h) ?_ (by assumption) ?_
 rotate_left
 ·intro w hSw;obtain⟨y0,y1⟩:=hSw;go_simp;(try with_reducible rfl)
 refine tkh 6 ?_ rfl (by kernel_rfl) (fun _ _ _ h=>h) ?_ (by assumption) ?_
 rotate_left
 ·intro w hSw;obtain⟨y0,y1⟩:=hSw;go_simp;(try with_reducible rfl)
 refine tkh 7 ?_ rfl (by kernel_rfl) (fun _ _ _ h=>h) ?_ (by assumption) ?_
 rotate_left
 ·intro w hSw;obtain⟨y0,y1⟩:=hSw;go_simp;(try with_reducible rfl)
 refine tkh 8 ?_ rfl (by kernel_rfl) (fun _ _ _ h=>h) ?_ (by assumption) ?_
 rotate_left
 ·intro w hSw;obtain⟨y0,y1⟩:=hSw;go_simp;(try with_reducible rfl)
 refine tkh 9 ?_ rfl (by kernel_rfl) (fun _ _ _ h=>h) ?_ (by assumption) ?_
 rotate_left
 ·intro w hSw;obtain⟨y0,y1⟩:=hSw;go_simp;(try with_reducible rfl)
 refine tkh 10 ?_ rfl (by kernel_rfl) (fun _ _ _ h=>h) ?_ (by assumption) ?_
 rotate_left
 ·intro w hSw;obtain⟨y0,y1⟩:=hSw;go_simp;(try with_reducible rfl)
 refine tkh 11 ?_ rfl (by kernel_rfl) (fun _ _ _ h=>h) ?_ (by assumption) ?_
 rotate_left
 ·intro w hSw;obtain⟨y0,y1⟩:=hSw;go_simp;(try with_reducible rfl)
 refine tkh 12 ?_ rfl (by kernel_rfl) (fun _ _ _ h=>h) ?_ (by assumption) ?_
 rotate_left
 ·intro w hSw;obtain⟨y0,y1⟩:=hSw;go_simp;(try with_reducible rfl)
 refine tkh 13 ?_ rfl (by kernel_rfl) (fun _ _ _ h=>h) ?_ (by assumption) ?_
 rotate_left
 ·intro w hSw;obtain⟨y0,y1⟩:=hSw;go_simp;(try with_reducible rfl)
 refine wpAnyH_ready (rs:=[14]) (by kernel_rfl) (by simp) ?_
 refine AllReadyH.cons rfl (fun K hK=> ?_) AllReadyH.nil
 go_simp
 refine(zq CE).mono ?_
 rintro e w1 ⟨rfl,HW⟩
 go_simp
 have hc1:w1.cell? ⟨b,0,none⟩=some (.slice (some ⟨g,off,none⟩) L.length cL)∧w1.cell? ⟨g,off+q,none⟩=some u:=by
  obtain⟨v,l,S,hq',-,-,-,-,hb',-,-⟩:=id HW
  obtain⟨c0',-⟩:=XX hq'.bk
  exact⟨c0',by rw[World.cell?_of_block (hb'.block g hg)];exact qu⟩
 refine hK.out _ _ hc1 (fun hHeld=> ?_)
 clear hK K
 refine wpAnyH_done (by kernel_rfl) ?_ _
 refine bodyPost_end (results_none rfl _ _ _) rfl ?_
 exact⟨rfl,HW⟩
structure Fr (S0 l0 S l ys:List Int):Prop where
 len:S.length=S0.length
 wait:∀x:Nat,S.getD x 0=S0.getD x 0-(if (x:Int)∈ys then 1 else 0)
 add:∃add,l.Perm (l0++add)∧add.Nodup∧add.length≤ys.length∧∀x,x∈add↔x∈ys∧S0.getD x.toNat 0=1
theorem Fr.nil (S0 l0:List Int):Fr S0 l0 S0 l0 []:=
 ⟨rfl,fun x=>by simp,[],by simp,List.nodup_nil,Nat.le_refl _,fun x=>by simp⟩
theorem Fr.size {S0 S l0 l ys:List Int} (h:Fr S0 l0 S l ys):l.length≤l0.length+ys.length:=by
 obtain⟨add,hp,-,hl,-⟩:=h.add
 have:=hp.length_eq
 rw[List.length_append]at this;omega
theorem Fr.waits {S0 S l0 l ys:List Int} (h:Fr S0 l0 S l ys) {y:Nat} (hn:(y:Int)∉ys) (hlt:y<S0.length):∀x:Nat,(S.set y (S.getD y 0-1)).getD x 0=S0.getD x 0-(if (x:Int)∈ys++[(y:Int)]then 1 else 0):=by
 intro x
 have hlen:=h.len
 have hw:=h.wait x
 rw[set_getD x (by omega)]
 by_cases hx:x=y
 ·subst hx
  rw[if_neg hn]at hw
  rw[if_pos rfl,if_pos (by simp)];omega
 ·have:((x:Int)∈ys++[(y:Int)])↔(x:Int)∈ys:=by
   rw[List.mem_append]
   exact⟨fun k=>k.elim id (fun k=>absurd (by have e:(x:Int)=(y:Int):=(by simpa using k);omega) hx),.inl⟩
  rw[if_neg hx,hw]
  simp only[this]
theorem Fr.old {S0 S l0 l ys:List Int} (h:Fr S0 l0 S l ys) {y:Nat} (hn:(y:Int)∉ys) (hy:S.getD y 0≠1) (hlt:y<S0.length):Fr S0 l0 (S.set y (S.getD y 0-1)) l (ys++[(y:Int)]):=by
 obtain⟨add,hp,hd,hl,hm⟩:=h.add
 have hw:=h.wait y
 rw[if_neg hn,Int.sub_zero]at hw
 refine⟨by simp[h.len],h.waits hn hlt,add,hp,hd,by simp;omega,fun x=> ?_⟩
 rw[hm x]
 constructor
 ·rintro⟨h1,h2⟩;exact⟨List.mem_append_left _ h1,h2⟩
 ·rintro⟨h1,h2⟩
  refine⟨?_,h2⟩
  rcases List.mem_append.1 h1 with h1|h1
  ·exact h1
  ·simp at h1;subst h1
   rw[show((y:Int)).toNat=y from rfl]at h2
   omega
theorem Fr.new {S0 S l0 l l' ys:List Int} (h:Fr S0 l0 S l ys) {y:Nat} (hn:(y:Int)∉ys) (hy:S.getD y 0=1) (hlt:y<S0.length) (hp':l'.Perm ((y:Int)::l)):Fr S0 l0 (S.set y (S.getD y 0-1)) l' (ys++[(y:Int)]):=by
 obtain⟨add,hp,hd,hl,hm⟩:=h.add
 have hw:=h.wait y
 rw[if_neg hn,Int.sub_zero]at hw
 refine⟨by simp[h.len],h.waits hn hlt,add++[(y:Int)],?_,?_,by simp;omega,fun x=> ?_⟩
 ·refine hp'.trans ?_
  rw[←List.append_assoc]
  exact(List.Perm.cons _ hp).trans (List.perm_append_singleton _ _).symm
 ·rw[List.nodup_append]
  refine⟨hd,by simp,fun a ha c hc e=> ?_⟩
  simp at hc;subst hc;subst e
  exact hn ((hm _).1 ha).1
 ·rw[List.mem_append,hm x]
  constructor
  ·rintro(⟨h1,h2⟩|h1)
   ·exact⟨List.mem_append_left _ h1,h2⟩
   ·simp at h1;subst h1
    exact⟨by simp,by rw[show((y:Int)).toNat=y from rfl];omega⟩
  ·rintro⟨h1,h2⟩
   rcases List.mem_append.1 h1 with h1|h1
   ·exact .inl ⟨h1,h2⟩
   ·exact .inr h1
def FrW (b B gs n c:Nat) (x0 x1 x4 v0:Value) (S0:List Int) (l0:List Int) (w:World) (W:World) (ys:List Int):Prop:=
 ∃v l S,QuV W b B x0 x1 v (.slice (some ⟨gs,0,none⟩) n c) x4 l∧Hp l∧QR W B gs n c S∧v.ownBlock≠some gs∧Fr S0 l0 S l ys∧Below B w W∧Nxt w v0 v∧
  ∀k,k<w.heap.size→k≠b→k≠gs→some k≠v0.ownBlock→W.heap[k]? =w.heap[k]?
theorem free_step (b B gs n c:Nat) (x0 x1 x4 v0:Value) (S0:List Int) (l0 ys:List Int) (w:World) (hbg:b≠gs) (hBb:B≤b) (hBg:B≤gs) (hlen:l0.length+ys.length≤999999) (hn:n≤1000000) (hS0:S0.length=n) (hd:ys.Nodup) (hW0:∀x,x<n→0≤S0.getD x 0∧S0.getD x 0≤1000000) (hv0:∀g,v0.ownBlock=some g→g<w.heap.size)
  (hy:∀y∈ys,∃m:Nat,y=(m:Int)∧m<n) (hgw:gs<w.heap.size) (hbw:b<w.heap.size):EachC (fun W k=>FrW b B gs n c x0 x1 x4 v0 S0 l0 w W (ys.take k)) 116 68 (.pointer (some ⟨b,0,none⟩)) (.pointer (some ⟨b,2,none⟩)) ys:=by
 intro W k y hk ⟨v,l,S,hq,hp,hS,hne,hsp,hb,hx,far⟩
 obtain⟨m,rfl,hm⟩:=hy y (List.mem_of_getElem? hk)
 have hBW:B≤W.heap.size:=Nat.le_trans hBb (Nat.le_of_lt hq.lt)
 have hk1:ys.take (k+1)=ys.take k++[(m:Int)]:=by rw[List.take_add_one,hk];rfl
 have hnm:(m:Int)∉ys.take k:=by
  have:(ys.take (k+1)).Nodup:=hd.sublist (List.take_sublist _ _)
  rw[hk1,List.nodup_append]at this
  intro h
  exact this.2.2 _ h _ (by simp) rfl
 have hsl:=hS.len
 have hv:=hsp.wait m
 rw[if_neg hnm,Int.sub_zero]at hv
 obtain⟨hr0,hr1⟩:=hW0 m hm
 rw[←hv]at hr0 hr1
 refine(waits_l b gs n c m B S x0 x1 v x4 W hq.bk hm hn hbg hS hr0 hr1).mono ?_
 rintro e w1 ⟨rfl,hw⟩
 have keep:∀k,k≠gs→w1.heap[k]? =W.heap[k]? :=fun k hk=>by rw[hw];exact heap_setCell_other W ⟨gs,m,none⟩ k _ (by simpa using hk)
 have hS1:QR w1 B gs n c (S.set m (S.getD m 0-1)):=by rw[hw];exact(hS.set m _).1
 have hsz:w1.heap.size=W.heap.size:=by rw[hw];simp
 have hq1:QuV w1 b B x0 x1 v (.slice (some ⟨gs,0,none⟩) n c) x4 l:=hq.kept (keep b hbg) (fun g hg=>keep g (fun e=>hne (by rw[hg,e])))
 have hb1:Below B w w1:=hb.trans (by rw[hw];exact⟨rfl,rfl,rfl,by simp,fun k hk=>heap_setCell_other W ⟨gs,m,none⟩ k _ (by simp;omega)⟩)
 have far1:∀k,k<w.heap.size→k≠b→k≠gs→some k≠v0.ownBlock→w1.heap[k]? =w.heap[k]? :=fun k h1 h2 h3 h4=>(keep k h3).trans (far k h1 h2 h3 h4)
 have hsz0:=hb.size
 clear hw
 refine⟨_,rfl,fun hr=> ?_,fun hr=> ?_⟩
 ·have hs:S.getD m 0≠1:=by simpa using hr
  exact⟨v,l,_,hq1,hp,hS1,hne,by rw[hk1];exact hsp.old hnm hs (by omega),hb1,hx,far1⟩
 ·have hs:S.getD m 0=1:=by simpa using hr
  have hl:=hsp.size
  rw[List.length_take]at hl
  refine(put_l b B x0 x1 v (.slice (some ⟨gs,0,none⟩) n c) x4 l m w1 hq1 (by omega) (by omega) hp).mono ?_
  rintro e w2 ⟨rfl,v',l',hp',hh',hq',hQ,hx'⟩
  have hgs2:w2.heap[gs]? =w1.heap[gs]? :=hQ.block gs (by omega) (fun e=>hbg e.symm) (fun e=>hne e.symm)
  refine⟨rfl,v',l',_,hq',hh',ju hS1 (fun g' e=>by have:=Option.some.inj e;subst this;exact hgs2),?_,by rw[hk1];exact hsp.new hnm hs (by omega) hp',?_,hx.then (w1:=w1) hx' (by omega),?_⟩
  ·rcases hx' with h|⟨g,h,hg⟩
   ·rw[h];exact hne
   ·rw[h];intro e;have:=Option.some.inj e;omega
  ·exact qs_below hb1 hQ hBb (by omega) (fun g hg=>(Xj hq.own hg).1)
  ·intro k h1 h2 h3 h4
   refine(hQ.block k (by omega) h2 (fun e=> ?_)).trans (far1 k h1 h2 h3 h4)
   rcases hx with h|⟨g,h,hg⟩
   ·rw[h]at e;exact h4 e
   ·rw[h]at e;have:=Option.some.inj e;omega
theorem free_l (b B gs n c q:Nat) (x0 x1 x4 v0:Value) (S0:List Int) (l0 ys:List Int) (L:List (List Int)) (w:World) (hq:QuV w b B x0 x1 v0 (.slice (some ⟨gs,0,none⟩) n c) x4 l0) (hp:Hp l0) (hS:QR w B gs n c S0) (hne:v0.ownBlock≠some gs)
  (hd:ys.Nodup) (hW0:∀x,x<n→0≤S0.getD x 0∧S0.getD x 0≤1000000) (hL:KvB B w x1 L) (hys:L[q]? =some ys) (hbg:b≠gs) (hBb:B≤b) (hlen:l0.length+ys.length≤999999) (hn:n≤1000000) (hy:∀y∈ys,∃m:Nat,y=(m:Int)∧m<n):
  Calls Tryz.prog 69 #[.pointer (some ⟨b,0,none⟩),.int .i64 (q:Int)] w fun e w'=>e= .returned (.tuple #[])∧FrW b B gs n c x0 x1 x4 v0 S0 l0 w w' ys:=by
 have hbw:=hq.lt
 have hgi:=Xj hS (rfl:(Value.slice (some ⟨gs,0,none⟩) n c).ownBlock=some gs)
 have ST:=zk (free_step b B gs n c x0 x1 x4 v0 S0 l0 ys w hbg hBb hgi.1 hlen hn hS.len hd hW0 (fun g hg=>(Xj hq.own hg).2) hy hgi.2 hbw)
 have HE1:∀args W,(callFunc 116 args).run Tryz.prog W= .ok (.enter 116 args) W:=enterK Tryz.func116 (by kernel_rfl) rfl
 have HE2:∀args W,(callFunc 68 args).run Tryz.prog W= .ok (.enter 68 args) W:=enterK Tryz.func68 (by kernel_rfl) rfl
 obtain⟨-,c0,-,-,-,-⟩:=XX hq.bk
 obtain⟨a,cL,rfl,hL1,hL2,h3⟩:=id hL
 obtain⟨g,off,u,rfl,hg,qu,hu⟩:=h3 q ys hys
 have hqL:q<L.length:=(List.getElem?_eq_some_iff.1 hys).1
 unfold maxLen at hL2
 have HU:=zk hu
 have W0:=zk (show FrW b B gs n c x0 _ x4 v0 S0 l0 w w.drew [] from⟨v0,l0,S0,⟨hq.bk,hq.own,hq.ne⟩,hp,hS,hne,Fr.nil _ _,(Below.refl _ _).drew,Nxt.refl _ _,fun _ _ _ _ _=>rfl⟩)
 have CE:=zk (each_l (fun W k=>FrW b B gs n c x0 _ x4 v0 S0 l0 w W (ys.take k)) 116 68 HE1 HE2 (.pointer (some ⟨b,0,none⟩)) (.pointer (some ⟨b,2,none⟩)) u ys w.drew (by omega) (fun W k hE=>by
  obtain⟨v,l,S,hq',-,-,-,-,hb',-,-⟩:=hE
  exact(hu.later hb').ns (Nat.le_trans hBb (Nat.le_of_lt hq'.lt))) (zq ST) (zq W0))
 rw[List.take_length]at CE
 clear ST W0 hu HU hL h3 hd hW0 hys hy hq hp hS hne HE1 HE2
 go_enter Tryz.func69,Tryz.ntmps69
 refine wp_region_held_drew (S:=(fun w'=>w'.cell? ⟨b,1,none⟩=some (.slice (some ⟨g,off,none⟩) L.length cL)∧w'.cell? ⟨g,off+q,none⟩=some u)) (by kernel_rfl) ⟨c0,qu⟩ (fun hHeld=> ?_)
 refine tkh 0 ?_ rfl (by kernel_rfl) (fun _ _ _ h=>h) ?_ (by assumption) ?_
 rotate_left
 ·intro w hSw;obtain⟨y0,y1⟩:=hSw;go_simp;(try with_reducible rfl)
 refine tkh 1 ?_ rfl (by kernel_rfl) (fun _ _ _ h=>h) ?_ (by assumption) ?_
 rotate_left
 ·intro w hSw;obtain⟨y0,y1⟩:=hSw;go_simp;(try with_reducible rfl)
 refine tkh 2 ?_ rfl (by kernel_rfl) (fun _ _ _ h=>h) ?_ (by assumption) ?_
 rotate_left
 ·intro w hSw;obtain⟨y0,y1⟩:=hSw;go_simp;(try with_reducible rfl)
 refine tkh 3 ?_ rfl (by kernel_rfl) (fun _ _ _ h=>h) ?_ (by assumption) ?_
 rotate_left
 ·intro w hSw;obtain⟨y0,y1⟩:=hSw;go_simp;(try with_reducible rfl)
 refine tkh 4 ?_ rfl (by kernel_rfl) (fun _ _ _ h=>h) ?_ (by assumption) ?_
 rotate_left
 ·intro w hSw;obtain⟨y0,y1⟩:=hSw;go_simp;(try with_reducible rfl)
 refine tkh 5 ?_ rfl (by kernel_rfl) (fun _ _ _ h=>h) ?_ (by assumption) ?_
 rotate_left
 ·intro w hSw;obtain⟨y0,y1⟩:=hSw;go_simp;(try with_reducible rfl)
 refine tkh 6 ?_ rfl (by kernel_rfl) (fun _ _ _ h=>h) ?_ (by assumption) ?_
 rotate_left
 ·intro w hSw;obtain⟨y0,y1⟩:=hSw;go_simp;(try with_reducible rfl)
 refine tkh 7 ?_ rfl (by kernel_rfl) (fun _ _ _ h=>h) ?_ (by assumption) ?_
 rotate_left
 ·intro w hSw;obtain⟨y0,y1⟩:=hSw;go_simp;(try with_reducible rfl)
 refine tkh 8 ?_ rfl (by kernel_rfl) (fun _ _ _ h=>h) ?_ (by assumption) ?_
 rotate_left
 ·intro w hSw;obtain⟨y0,y1⟩:=hSw;go_simp;(try with_reducible rfl)
 refine tkh 9 ?_ rfl (by kernel_rfl) (fun _ _ _ h=>h) ?_ (by assumption) ?_
 rotate_left
 ·intro w hSw;obtain⟨y0,y1⟩:=hSw;go_simp;(try with_reducible rfl)
 refine tkh 10 ?_ rfl (by kernel_rfl) (fun _ _ _ h=>h) ?_ (by assumption) ?_
 rotate_left
 ·intro w hSw;obtain⟨y0,y1⟩:=hSw;go_simp;(try with_reducible rfl)
 refine tkh 11 ?_ rfl (by kernel_rfl) (fun _ _ _ h=>h) ?_ (by assumption) ?_
 rotate_left
 ·intro w hSw;obtain⟨y0,y1⟩:=hSw;go_simp;(try with_reducible rfl)
 refine tkh 12 ?_ rfl (by kernel_rfl) (fun _ _ _ h=>h) ?_ (by assumption) ?_
 rotate_left
 ·intro w hSw;obtain⟨y0,y1⟩:=hSw;go_simp;(try with_reducible rfl)
 refine tkh 13 ?_ rfl (by kernel_rfl) (fun _ _ _ h=>h) ?_ (by assumption) ?_
 rotate_left
 ·intro w hSw;obtain⟨y0,y1⟩:=hSw;go_simp;(try with_reducible rfl)
 refine wpAnyH_ready (rs:=[14]) (by kernel_rfl) (by simp) ?_
 refine AllReadyH.cons rfl (fun K hK=> ?_) AllReadyH.nil
 go_simp
 refine(zq CE).mono ?_
 rintro e w1 ⟨rfl,HW⟩
 go_simp
 have hc1:w1.cell? ⟨b,1,none⟩=some (.slice (some ⟨g,off,none⟩) L.length cL)∧w1.cell? ⟨g,off+q,none⟩=some u:=by
  obtain⟨v,l,S,hq',-,-,-,-,hb',-,-⟩:=id HW
  obtain⟨-,c0',-⟩:=XX hq'.bk
  exact⟨c0',by rw[World.cell?_of_block (hb'.block g hg)];exact qu⟩
 refine hK.out _ _ hc1 (fun hHeld=> ?_)
 clear hK K
 refine wpAnyH_done (by kernel_rfl) ?_ _
 refine bodyPost_end (results_none rfl _ _ _) rfl ?_
 exact⟨rfl,HW⟩
theorem nd_len:∀(n:Nat) (l:List Int),l.Nodup→(∀y∈l,∃m:Nat,y=(m:Int)∧m<n)→l.length≤n:=by
 intro n
 induction n with
 |zero=>
  intro l _ h
  cases l with
  |nil=>simp
  |cons a t=>obtain⟨m,-,hm⟩:=h a (by simp);omega
 |succ n ih=>
  intro l hd h
  have h1:=ih (l.erase (n:Int)) (hd.erase _) (fun y hy=>by
   rw[hd.mem_erase_iff]at hy
   obtain⟨m,e,hm⟩:=h y hy.2
   refine⟨m,e,?_⟩
   have:m≠n:=fun e2=>hy.1 (by rw[e,e2])
   omega)
  rw[List.length_erase]at h1
  split at h1<;>omega
def cm (L:List (List Int)):Nat→Nat→Int→Prop
 |0,n,x=>x∈L.getD n []
 |k+1,n,x=>∃m:Nat,cm L k n (m:Int)∧x∈L.getD m []
def Cms (L:List (List Int)) (n:Nat) (x:Int):Prop:=∃k,cm L k n x
theorem Cms.one {L:List (List Int)} {n:Nat} {x:Int} (h:x∈L.getD n []):Cms L n x:=⟨0,h⟩
theorem Cms.more {L:List (List Int)} {n m:Nat} {x:Int} (h:Cms L n (m:Int)) (k:x∈L.getD m []):Cms L n x:=by
 obtain⟨j,h⟩:=h;exact⟨j+1,m,h,k⟩
structure ToI (L:List (List Int)) (q n:Nat) (S:List Bool) (l out:List Int):Prop where
 nd:(out++l).Nodup
 seen:∀x:Nat,S.getD x false=true↔(x:Int)∈out++l
 rng:∀y∈out++l,∃m:Nat,y=(m:Int)∧m<n
 come:∀y∈out++l,Cms L q y
 first:∀y∈L.getD q [],y∈out++l
 clos:∀m:Nat,(m:Int)∈out→∀y∈L.getD m [],y∈out++l
theorem ToI.small {L:List (List Int)} {q n:Nat} {S:List Bool} {l out:List Int} (h:ToI L q n S l out):out.length+l.length≤n:=by
 have:=nd_len n _ h.nd h.rng
 rw[List.length_append]at this;exact this
theorem ToI.begin {L:List (List Int)} {q n:Nat} {S0 S:List Bool} {l:List Int} (h0:∀x:Nat,S0.getD x false=false) (h:Sp S0 [] S l (L.getD q [])) (hr:∀y∈L.getD q [],∃m:Nat,y=(m:Int)∧m<n):ToI L q n S l []:=by
 obtain⟨add,hp,hd,-,hm⟩:=h.add
 rw[List.nil_append]at hp
 have hmem:∀x,x∈l↔x∈L.getD q []:=fun x=>by
  rw[hp.mem_iff,hm x]
  exact⟨fun k=>k.1,fun k=>⟨k,h0 _⟩⟩
 refine⟨hp.symm.nodup hd,fun x=> ?_,fun y hy=>hr y ((hmem y).1 hy),fun y hy=> .one ((hmem y).1 hy),fun y hy=>(hmem y).2 hy,fun m hm=>by cases hm⟩
 rw[h.seen x,h0 x,List.nil_append,hmem];simp
theorem ToI.step {L:List (List Int)} {q n m:Nat} {S S':List Bool} {l l1 l2 out:List Int} (h:ToI L q n S l out) (hl:l.Perm ((m:Int)::l1)) (hs:Sp S l1 S' l2 (L.getD m [])) (hr:∀y∈L.getD m [],∃m:Nat,y=(m:Int)∧m<n):ToI L q n S' l2 (out++[(m:Int)]):=by
 obtain⟨add,hp,hd,-,hm⟩:=hs.add
 have P:((out++[(m:Int)])++l2).Perm ((out++l)++add):=by
  have a1:((out++[(m:Int)])++l2).Perm ((out++[(m:Int)])++(l1++add)):=List.Perm.append_left _ hp
  refine a1.trans ?_
  rw[←List.append_assoc,List.append_assoc out]
  exact List.Perm.append_right _ (List.Perm.append_left _ hl.symm)
 have hmem:∀x,x∈(out++[(m:Int)])++l2↔x∈out++l∨x∈add:=fun x=>by rw[P.mem_iff,List.mem_append]
 have hin:(m:Int)∈out++l:=List.mem_append_right _ (hl.symm.subset (by simp))
 have hall:∀y,y∈L.getD m []→y∈(out++[(m:Int)])++l2:=fun y hy=>by
  rw[hmem]
  obtain⟨k,rfl,-⟩:=hr y hy
  cases hk:S.getD k false with
  |true=>exact .inl ((h.seen k).1 hk)
  |false=>exact .inr ((hm _).2 ⟨hy,hk⟩)
 refine⟨P.symm.nodup ?_,fun x=> ?_,fun y hy=> ?_,fun y hy=> ?_,fun y hy=>(hmem y).2 (.inl (h.first y hy)),fun k hk y hy=> ?_⟩
 ·rw[List.nodup_append]
  refine⟨h.nd,hd,fun a ha c hc e=> ?_⟩
  subst e
  obtain⟨h1,h2⟩:=(hm a).1 hc
  obtain⟨k,rfl,-⟩:=hr a h1
  rw[show((k:Int)).toNat=k from rfl,(h.seen k).2 ha]at h2
  cases h2
 ·rw[hs.seen x,hmem,hm]
  constructor
  ·intro hx
   rcases Bool.or_eq_true _ _▸hx with hx|hx
   ·exact .inl ((h.seen x).1 hx)
   ·have hx:=of_decide_eq_true hx
    cases hk:S.getD x false with
    |true=>exact .inl ((h.seen x).1 hk)
    |false=>exact .inr ⟨hx,hk⟩
  ·rintro(hx|⟨hx,-⟩)
   ·rw[(h.seen x).2 hx];rfl
   ·rw[Bool.or_eq_true];exact .inr (decide_eq_true hx)
 ·rcases (hmem y).1 hy with hy|hy
  ·exact h.rng y hy
  ·exact hr y ((hm y).1 hy).1
 ·rcases (hmem y).1 hy with hy|hy
  ·exact h.come y hy
  ·exact(h.come _ hin).more ((hm y).1 hy).1
 ·rcases List.mem_append.1 hk with hk|hk
  ·exact(hmem y).2 (.inl (h.clos k hk y hy))
  ·simp at hk
   obtain rfl:k=m:=by omega
   exact hall y hy
theorem ToI.done {L:List (List Int)} {q n:Nat} {S:List Bool} {out:List Int} (h:ToI L q n S [] out) (x:Int):x∈out↔Cms L q x:=by
 have e:out++[]=out:=List.append_nil _
 constructor
 ·intro hx;exact h.come x (by rw[e];exact hx)
 ·rintro⟨k,hk⟩
  induction k generalizing x with
  |zero=>have:=h.first x hk;rw[e]at this;exact this
  |succ k ih=>
   obtain⟨m,h1,h2⟩:=hk
   have:=h.clos m (ih _ h1) x h2
   rw[e]at this;exact this
def InN (L:List (List Int)) (n:Nat):Prop:=∀l∈L,∀y∈l,∃m:Nat,y=(m:Int)∧m<n
theorem InN.at {L:List (List Int)} {n:Nat} (h:InN L n) (q:Nat):∀y∈L.getD q [],∃m:Nat,y=(m:Int)∧m<n:=by
 intro y hy
 rw[List.getD_eq_getElem?_getD]at hy
 cases e:L[q]? with
 |none=>rw[e]at hy;cases hy
 |some l=>rw[e]at hy;exact h l (List.mem_of_getElem? e) y hy
structure ToM (b B gs n c q:Nat) (x0 x1 x3:Value) (L:List (List Int)) (W:World) (v:Value) (l out:List Int):Prop where
 qu:QuV W b B x0 x1 v x3 (.slice (some ⟨gs,0,none⟩) n c) l
 hp:Hp l
 ne:v.ownBlock≠some gs
 row:KvB B W x0 L
 go:∃S,BR W B gs n c S∧ToI L q n S l out
theorem ToM.run {b B gs n c q:Nat} {x0 x1 x3:Value} {L:List (List Int)} (N0:Nat):RunM (ToM b B gs n c q x0 x1 x3 L) N0 b B n x0 x1 x3 (.slice (some ⟨gs,0,none⟩) n c):=
 ⟨fun W v l out h=>⟨h.qu,h.hp,by obtain⟨S,-,hi⟩:=h.go;exact hi.small⟩⟩
theorem to_step (b B gs n c q N0:Nat) (x0 x1 x3:Value) (L:List (List Int)) (hL:InN L n) (hLn:L.length=n) (hl0:∀l∈L,l.length≤1000) (hn:n≤900000) (hbg:b≠gs) (hBb:B≤b) (hg0:gs<N0) (hb0:b<N0) (hBN:B≤N0):
  StepC (ToM b B gs n c q x0 x1 x3 L) 121 N0 b B x0 x1 x3 (.slice (some ⟨gs,0,none⟩) n c):=by
 intro W W2 v v1 l l1 out hM hl hperm hp1 hq hv hfar hbel
 obtain⟨S,hS,hI⟩:=hM.go
 have hsm:=hI.small
 obtain⟨m,hx,hm⟩:=hI.rng (l.getD 0 0) (List.mem_append_right _ (hperm.symm.subset (by simp)))
 rw[hx]at hperm⊢
 have hl1:=hperm.length_eq
 rw[List.length_cons]at hl1
 obtain⟨ys,hys⟩:∃ys,L[m]? =some ys:=⟨L[m]'(by omega),List.getElem?_eq_getElem (by omega)⟩
 have hyD:L.getD m []=ys:=by rw[List.getD_eq_getElem?_getD,hys];rfl
 have hr:=hL.at m
 rw[hyD]at hr
 have hysl:=hl0 ys (List.mem_of_getElem? hys)
 have hS2:BR W2 B gs n c S:=hS.kept (hfar gs hg0 (fun e=>hbg e.symm) (fun e=>hM.ne e.symm))
 have hne1:v1.ownBlock≠some gs:=by rw[hv];exact hM.ne
 have hgi:=Xj hS2 (rfl:(Value.slice (some ⟨gs,0,none⟩) n c).ownBlock=some gs)
 refine(spread_l b B gs n c m x0 x1 x3 v1 S l1 ys L W2 hq hp1 hS2 hne1 (hM.row.later hbel) hys hbg hBb (by omega) (by omega) hr).mono ?_
 rintro e w' ⟨rfl,v2,l2,S2,hq2,hp2,hB2,hn2,hs2,hb2,hx2,far2⟩
 have hs2':Sp S l1 S2 l2 (L.getD m []):=by rw[hyD];exact hs2
 refine⟨rfl,v2,l2,⟨hq2,hp2,hn2,(hM.row.later hbel).later hb2,S2,hB2,hI.step hperm hs2' (by rw[hyD];exact hr)⟩,hx2,fun k h1 h2 h3=> ?_,hb2⟩
 by_cases hkb:k=b
 ·omega
 ·by_cases hkg:k=gs
  ·omega
  ·exact far2 k h1 hkb hkg h3
theorem XK {W:World} {g:Nat} {x0 x1:Value} {t:TypeId} (h:W.heap[g]? =some (.cells #[x0,x1] t)):
  W.cell? ⟨g,0,none⟩=some x0∧W.cell? ⟨g,1,none⟩=some x1:=by
 refine⟨?_,?_⟩<;>simp[World.cell?,h]
theorem XY {W:World} (p:Addr) (o:Obj) (h:p.block<W.heap.size):(W.alloc o).cell? p=W.cell? p:=World.cell?_of_block (heap_alloc_old W o h)
theorem rep_no (n x:Nat):(List.replicate n false).getD x false=false:=by
 rw[List.getD_eq_getElem?_getD,List.getElem?_replicate]
 by_cases h:x<n<;>simp[h]
theorem XZ {w w':World} {g:Nat} (e:w'.heap[g]? =w.heap[g]?) (i:Nat):w'.cell? ⟨g,i,none⟩=w.cell? ⟨g,i,none⟩:=World.cell?_of_block e
theorem made_boolk (n:Nat):(madeCells #[.bool false] (n*1)).toList=(List.replicate n false).map Value.bool:=by
 apply List.ext_getElem?
 intro j
 rw[Nat.mul_one,List.map_replicate]
 by_cases hj:j<n
 ·simp[madeCells,hj,Nat.mod_one]
 ·simp[madeCells,hj]
theorem boolT_info:(Tryz.prog.info? 4).map (fun i=>(i.zero,i.size,i.bytes))=some (some (.bool false),1,1):=by kernel_rfl
theorem mk_bool (B n:Nat) (W:World) (hn:n≤900000) (hB:B≤W.heap.size):∃w1,(Instr.makeSlice 35 (.int .i64 (n:Int)) (.int .i64 (n:Int))).run Tryz.prog W= .ok (.slice (some ⟨W.heap.size,0,none⟩) n n) w1∧BR w1 B W.heap.size n n (List.replicate n false)∧W.grownBy w1 none:=by
 obtain⟨ti,hi0,hz0,hz1,hzb⟩:=infoT boolT_info
 obtain⟨w1,hr,h1,h2⟩:=run_make_full (P:=Tryz.prog) (w:=W) B 35 4 ti _ 1 Tryz.underlying35 hi0 hz0 hz1 .i64 .i64 n (by rw[hzb];omega) (by unfold maxLen;omega) hB
 refine⟨w1,hr,?_,h2⟩
 rw[show(Value.bool false).cells= #[.bool false] from rfl,made_boolk]at h1
 exact h1
theorem to_l (q cL n1 c1:Nat) (a a1:Option Addr) (L:List (List Int)) (w:World) (hL:KvB w.heap.size w (.slice a L.length cL) L) (hin:InN L L.length) (hl0:∀l∈L,l.length≤1000) (hn:L.length≤900000) (hq:q<L.length):
  Calls Tryz.prog 77 #[.agg #[.slice a L.length cL,.slice a1 n1 c1],.int .i64 (q:Int)] w fun e w'=>∃(v':Value) (out:List Int),e= .returned v'∧w'.ownsRow w.heap.size 3 1 v' out.length (out.map (Value.int .i64))∧out.Nodup∧(∀x,x∈out↔Cms L q x)∧out.length≤L.length∧Below w.heap.size w w':=by
 have HE:∀args W,(callFunc 121 args).run Tryz.prog W= .ok (.enter 121 args) W:=enterK Tryz.func121 (by kernel_rfl) rfl
 generalize hnn:L.length=n at*
 go_enter Tryz.func77,Tryz.ntmps77
 go_wp2_with fail
 have G0:=heap_alloc_new w (.cells #[.slice a n cL,.slice a1 n1 c1] 62)
 have Z0:=XK G0
 have BW0:Below w.heap.size w (w.alloc (.cells #[.slice a n cL,.slice a1 n1 c1] 62)):=Below.new1 _
 have hsz:(w.alloc (.cells #[.slice a n cL,.slice a1 n1 c1] 62)).heap.size=w.heap.size+1:=by simp
 generalize w.alloc (.cells #[.slice a n cL,.slice a1 n1 c1] 62)=W at*
 have HBW:=zk BW0
 clear BW0
 refine wp_region_held_drew (S:=(fun w'=>w'.cell? ⟨w.heap.size,0,none⟩=some (.slice a n cL)∧w'.cell? ⟨w.heap.size,1,none⟩=some (.slice a1 n1 c1))) (by kernel_rfl) Z0 (fun hHeld=> ?_)
 refine tkh 0 ?_ rfl (by kernel_rfl) (fun _ _ _ h=>h) ?_ (by assumption) ?_
 rotate_left
 ·intro w hSw;obtain⟨y0,y1⟩:=hSw;go_simp;(try with_reducible rfl)
 refine tkh 1 ?_ rfl (by kernel_rfl) (fun _ _ _ h=>h) ?_ (by assumption) ?_
 rotate_left
 ·intro w hSw;obtain⟨y0,y1⟩:=hSw;go_simp;(try with_reducible rfl)
 refine tkh 2 ?_ rfl (by kernel_rfl) (fun _ _ _ h=>h) ?_ (by assumption) ?_
 rotate_left
 ·intro w hSw;obtain⟨y0,y1⟩:=hSw;go_simp;(try with_reducible rfl)
 refine tkh 3 ?_ rfl (by kernel_rfl) (fun _ _ _ h=>h) ?_ (by assumption) ?_
 rotate_left
 ·intro w hSw;obtain⟨y0,y1⟩:=hSw;go_simp;(try with_reducible rfl)
 refine wpAnyH_ready (rs:=[4,6]) (by kernel_rfl) (by simp) ?_
 refine AllReadyH.cons rfl (fun K hK=> ?_) (AllReadyH.cons rfl (fun K hK=> ?_) AllReadyH.nil)
 ·obtain⟨w1,hr,hB,gr⟩:=mk_bool w.heap.size n W.drew hn (by show w.heap.size≤W.heap.size;omega)
  go_simp
  have k1:w1.cell? ⟨w.heap.size,0,none⟩=some (.slice a n cL)∧w1.cell? ⟨w.heap.size,1,none⟩=some (.slice a1 n1 c1):=by
   have e:w1.heap[w.heap.size]? =W.heap[w.heap.size]? :=gr.block w.heap.size (show w.heap.size<W.heap.size by omega) (by simp)
   exact⟨(XZ e 0).trans Z0.1,(XZ e 1).trans Z0.2⟩
  refine hK.out _ _ k1 (fun hHeld=> ?_)
  clear hK K
  refine tkh 5 ?_ rfl (by kernel_rfl) (fun _ _ _ h=>h) ?_ (by assumption) ?_
  rotate_left
  ·intro w hSw;go_simp;(try with_reducible rfl)
  refine wpAnyH_ready (rs:=[6]) (by kernel_rfl) (by simp) ?_
  refine AllReadyH.cons rfl (fun K hK=> ?_) AllReadyH.nil
  go_simp
  refine hK.out _ _ (⟨(XY _ _ (by show w.heap.size<w1.heap.size;have:=gr.size;have:W.drew.heap.size=W.heap.size:=rfl;omega)).trans k1.1,(XY _ _ (by show w.heap.size<w1.heap.size;have:=gr.size;have:W.drew.heap.size=W.heap.size:=rfl;omega)).trans k1.2⟩) (fun hHeld=> ?_)
  clear hK K
  refine wpAnyH_ready (rs:=[7]) (by kernel_rfl) (by simp) ?_
  refine AllReadyH.cons rfl (fun K hK=> ?_) AllReadyH.nil
  go_simp
  have sz1:W.heap.size≤w1.heap.size:=gr.size
  have k2:(w1.alloc (.cells #[.slice a n cL,.slice a1 n1 c1,.slice none 0 0,.slice none 0 0,.slice (some ⟨w.heap.size+1,0,none⟩) n n] 68)).cell? ⟨w.heap.size,0,none⟩=some (.slice a n cL)∧(w1.alloc (.cells #[.slice a n cL,.slice a1 n1 c1,.slice none 0 0,.slice none 0 0,.slice (some ⟨w.heap.size+1,0,none⟩) n n] 68)).cell? ⟨w.heap.size,1,none⟩=some (.slice a1 n1 c1):=⟨(XY _ _ (by show w.heap.size<w1.heap.size;omega)).trans k1.1,(XY _ _ (by show w.heap.size<w1.heap.size;omega)).trans k1.2⟩
  refine hK.out _ _ k2 (fun hHeld=> ?_)
  clear hK K
  refine wpAnyH_done (by kernel_rfl) ?_ _
  have BW:=zq HBW
  have sD:W.drew.heap.size=W.heap.size:=rfl
  have FB:(w1.alloc (.cells #[.slice a n cL,.slice a1 n1 c1,.slice none 0 0,.slice none 0 0,.slice (some ⟨w.heap.size+1,0,none⟩) n n] 68)).heap[w1.heap.size]? =some (.cells #[.slice a n cL,.slice a1 n1 c1,.slice none 0 0,.slice none 0 0,.slice (some ⟨w.heap.size+1,0,none⟩) n n] 68):=heap_alloc_new _ _
  have FR:BR (w1.alloc (.cells #[.slice a n cL,.slice a1 n1 c1,.slice none 0 0,.slice none 0 0,.slice (some ⟨w.heap.size+1,0,none⟩) n n] 68)) w.heap.size (w.heap.size+1) n n (List.replicate n false):=by
   rw[sD,hsz]at hB
   exact hB.kept (heap_alloc_old w1 _ (Xj hB rfl).2)
  have FW:Below w.heap.size w (w1.alloc (.cells #[.slice a n cL,.slice a1 n1 c1,.slice none 0 0,.slice none 0 0,.slice (some ⟨w.heap.size+1,0,none⟩) n n] 68)):=(BW.trans ⟨gr.os,gr.tape,gr.output,gr.size,fun k hk=>gr.block k (show k<W.heap.size by omega) (by simp)⟩).alloc (by omega) _
  have D2:w.heap.size≤w1.heap.size:=by omega
  have D1:w1.heap.size≠w.heap.size+1:=by
   have:W.heap.size<w1.heap.size:=(Xj hB (rfl:(Value.slice (some ⟨W.drew.heap.size,0,none⟩) n n).ownBlock=some W.drew.heap.size)).2
   omega
  clear k1 k2 hB gr hr sz1 Z0 BW sD HBW
  generalize (w1.alloc (.cells #[.slice a n cL,.slice a1 n1 c1,.slice none 0 0,.slice none 0 0,.slice (some ⟨w.heap.size+1,0,none⟩) n n] 68))=X at*
  generalize w1.heap.size=b at*
  generalize w.heap.size+1=gs at*
  clear hsz
  obtain⟨ys,hys⟩:∃ys,L[q]? =some ys:=⟨L[q]'(by omega),List.getElem?_eq_getElem (by omega)⟩
  have hyD:L.getD q []=ys:=by rw[List.getD_eq_getElem?_getD,hys];rfl
  have hr:=hin.at q
  rw[hyD]at hr
  have hysl:=hl0 ys (List.mem_of_getElem? hys)
  have hKX:KvB w.heap.size X (.slice a n cL) L:=hL.later FW
  have CS:=zk (spread_l b w.heap.size gs n n q (.slice a n cL) (.slice a1 n1 c1) (.slice none 0 0) (.slice none 0 0) (List.replicate n false) [] ys L X ⟨FB,World.ownsRow_nil _ _ _ _,by simp[Value.ownBlock]⟩ Hp.nil FR (by simp[Value.ownBlock]) hKX hys D1 D2 (by simp;omega) (by omega) hr)
  have HL:=zk hL
  have HFW:=zk FW
  have HIN:=zk hin
  have HL0:=zk hl0
  have HYD:=zk hyD
  have HR:=zk hr
  have HGX:=zk (Xj FR (rfl:(Value.slice (some ⟨gs,0,none⟩) n n).ownBlock=some gs))
  clear hL FB FR FW hin hl0 hyD hr hysl hys hKX
  go_wp2_with fail
  refine(zq CS).mono ?_
  rintro e w2 ⟨rfl,v2,l2,S2,hq2,hp2,hB2,hn2,hs2,hb2,-,-⟩
  clear CS
  have hw2:=hq2.lt
  have hg2:=Xj hB2 (rfl:(Value.slice (some ⟨gs,0,none⟩) n n).ownBlock=some gs)
  have hsX:=hb2.size
  have hBX:w.heap.size≤w2.heap.size:=by omega
  have hM:ToM b w.heap.size gs n n q (.slice a n cL) (.slice a1 n1 c1) (.slice none 0 0) L w2 v2 l2 []:=
   ⟨hq2,hp2,hn2,((zq HL).later (zq HFW)).later hb2,S2,hB2,ToI.begin (rep_no n) (by rw[zq HYD];exact hs2) ((zq HIN).at q)⟩
  have CR:=zk (run_l (ToM b w.heap.size gs n n q (.slice a n cL) (.slice a1 n1 c1) (.slice none 0 0) L) 121 b w.heap.size n HE _ _ _ _ v2 l2 w2 (by omega) D2 (ToM.run _) (to_step b w.heap.size gs n n q w2.heap.size _ _ _ L (zq HIN) hnn (zq HL0) hn D1 D2 hg2.2 hw2 hBX) hM)
  have HB2:=zk hb2
  clear hq2 hp2 hB2 hn2 hs2 hb2 hM
  go_wp2_with fail
  refine(zq CR).mono ?_
  rintro e w3 ⟨v',out,vq,rfl,O3,M3,B3⟩
  obtain⟨S3,-,I3⟩:=M3.go
  have HO:=zk (Xi O3 hBX)
  have HI:=zk I3
  have HB3:=zk (((zq HFW).trans (zq HB2)).trans B3)
  clear CR O3 M3 B3 I3
  go_wp2_with fail
  go_ret
  exact⟨v',out,rfl,zq HO,by simpa using (zq HI).nd,(zq HI).done,by simpa using (zq HI).small,zq HB3⟩
 ·go_simp
  refine hK.out _ _ (⟨(XY _ _ (by show w.heap.size<W.heap.size;omega)).trans Z0.1,(XY _ _ (by show w.heap.size<W.heap.size;omega)).trans Z0.2⟩) (fun hHeld=> ?_)
  clear hK K
  refine wpAnyH_ready (rs:=[4]) (by kernel_rfl) (by simp) ?_
  refine AllReadyH.cons rfl (fun K hK=> ?_) AllReadyH.nil
  obtain⟨w1,hr,hB,gr⟩:=mk_bool w.heap.size n (W.alloc (.cells #[.slice none 0 0,.slice none 0 0,.slice none 0 0,.slice none 0 0,.slice none 0 0] 68)).drew hn (by show w.heap.size≤(W.alloc _).heap.size;simp;omega)
  go_simp
  have sz1:W.heap.size+1≤w1.heap.size:=by have:=gr.size;simpa using this
  have k1:w1.cell? ⟨w.heap.size,0,none⟩=some (.slice a n cL)∧w1.cell? ⟨w.heap.size,1,none⟩=some (.slice a1 n1 c1):=by
   have e:w1.heap[w.heap.size]? =(W.alloc (.cells #[.slice none 0 0,.slice none 0 0,.slice none 0 0,.slice none 0 0,.slice none 0 0] 68)).heap[w.heap.size]? :=gr.block w.heap.size (show w.heap.size<(W.alloc _).heap.size by simp;omega) (by simp)
   have e2:w1.heap[w.heap.size]? =W.heap[w.heap.size]? :=e.trans (heap_alloc_old W _ (by omega))
   exact⟨(XZ e2 0).trans Z0.1,(XZ e2 1).trans Z0.2⟩
  have G5:w1.heap[w.heap.size+1]? =some (.cells #[.slice none 0 0,.slice none 0 0,.slice none 0 0,.slice none 0 0,.slice none 0 0] 68):=by
   have e:w1.heap[w.heap.size+1]? =(W.alloc (.cells #[.slice none 0 0,.slice none 0 0,.slice none 0 0,.slice none 0 0,.slice none 0 0] 68)).heap[w.heap.size+1]? :=gr.block (w.heap.size+1) (show w.heap.size+1<(W.alloc _).heap.size by simp;omega) (by simp)
   rw[e,←hsz];exact heap_alloc_new _ _
  refine hK.out _ _ k1 (fun hHeld=> ?_)
  clear hK K
  refine tkh 5 ?_ rfl (by kernel_rfl) (fun _ _ _ h=>h) ?_ (by assumption) ?_
  rotate_left
  ·intro w hSw;go_simp;(try with_reducible rfl)
  refine wpAnyH_ready (rs:=[7]) (by kernel_rfl) (by simp) ?_
  refine AllReadyH.cons rfl (fun K hK=> ?_) AllReadyH.nil
  obtain⟨q0,q1,q2,q3,q4,qz⟩:=XX G5
  go_simp
  obtain⟨FB,s1,s2,s3,s4,s5⟩:=set5 G5 (.slice a n cL) (.slice a1 n1 c1) (.slice none 0 0) (.slice none 0 0) (.slice (some ⟨w.heap.size+1+1,0,none⟩) n n)
  have BW:=zq HBW
  have sA:(W.alloc (.cells #[.slice none 0 0,.slice none 0 0,.slice none 0 0,.slice none 0 0,.slice none 0 0] 68)).drew.heap.size=w.heap.size+1+1:=by show(W.alloc _).heap.size=_;simp[hsz]
  rw[sA]at hB
  generalize hX:(((((w1.setCell ⟨w.heap.size+1,0,none⟩ (.slice a n cL)).setCell ⟨w.heap.size+1,1,none⟩ (.slice a1 n1 c1)).setCell ⟨w.heap.size+1,2,none⟩ (.slice none 0 0)).setCell ⟨w.heap.size+1,3,none⟩ (.slice none 0 0)).setCell ⟨w.heap.size+1,4,none⟩ (.slice (some ⟨w.heap.size+1+1,0,none⟩) n n))=X at*
  have k3:X.cell? ⟨w.heap.size,0,none⟩=some (.slice a n cL)∧X.cell? ⟨w.heap.size,1,none⟩=some (.slice a1 n1 c1):=⟨(XZ (s2 _ (by omega)) 0).trans k1.1,(XZ (s2 _ (by omega)) 1).trans k1.2⟩
  refine hK.out _ _ k3 (fun hHeld=> ?_)
  clear hK K
  refine wpAnyH_done (by kernel_rfl) ?_ _
  have FR:BR X w.heap.size (w.heap.size+1+1) n n (List.replicate n false):=hB.kept (s2 _ (by omega))
  have FW:Below w.heap.size w X:=by
   have b1:Below w.heap.size w (W.alloc (.cells #[.slice none 0 0,.slice none 0 0,.slice none 0 0,.slice none 0 0,.slice none 0 0] 68)).drew:=(BW.alloc (by omega) _).drew
   have b2:Below w.heap.size w w1:=b1.trans ⟨gr.os,gr.tape,gr.output,gr.size,fun k hk=>gr.block k (by rw[sA];omega) (by simp)⟩
   exact b2.trans ⟨s3,s4,s5,by omega,fun k hk=>s2 k (by omega)⟩
  have D2:w.heap.size≤w.heap.size+1:=by omega
  have D1:w.heap.size+1≠w.heap.size+1+1:=by omega
  clear k1 k3 hB gr hr sz1 Z0 BW sA HBW hX s1 s2 s3 s4 s5 q0 q1 q2 q3 q4 qz G5
  generalize w.heap.size+1+1=gs at*
  generalize w.heap.size+1=b at*
  clear hsz
  obtain⟨ys,hys⟩:∃ys,L[q]? =some ys:=⟨L[q]'(by omega),List.getElem?_eq_getElem (by omega)⟩
  have hyD:L.getD q []=ys:=by rw[List.getD_eq_getElem?_getD,hys];rfl
  have hr:=hin.at q
  rw[hyD]at hr
  have hysl:=hl0 ys (List.mem_of_getElem? hys)
  have hKX:KvB w.heap.size X (.slice a n cL) L:=hL.later FW
  have CS:=zk (spread_l b w.heap.size gs n n q (.slice a n cL) (.slice a1 n1 c1) (.slice none 0 0) (.slice none 0 0) (List.replicate n false) [] ys L X ⟨FB,World.ownsRow_nil _ _ _ _,by simp[Value.ownBlock]⟩ Hp.nil FR (by simp[Value.ownBlock]) hKX hys D1 D2 (by simp;omega) (by omega) hr)
  have HL:=zk hL
  have HFW:=zk FW
  have HIN:=zk hin
  have HL0:=zk hl0
  have HYD:=zk hyD
  have HR:=zk hr
  have HGX:=zk (Xj FR (rfl:(Value.slice (some ⟨gs,0,none⟩) n n).ownBlock=some gs))
  clear hL FB FR FW hin hl0 hyD hr hysl hys hKX
  go_wp2_with fail
  refine(zq CS).mono ?_
  rintro e w2 ⟨rfl,v2,l2,S2,hq2,hp2,hB2,hn2,hs2,hb2,-,-⟩
  clear CS
  have hw2:=hq2.lt
  have hg2:=Xj hB2 (rfl:(Value.slice (some ⟨gs,0,none⟩) n n).ownBlock=some gs)
  have hsX:=hb2.size
  have hBX:w.heap.size≤w2.heap.size:=by omega
  have hM:ToM b w.heap.size gs n n q (.slice a n cL) (.slice a1 n1 c1) (.slice none 0 0) L w2 v2 l2 []:=
   ⟨hq2,hp2,hn2,((zq HL).later (zq HFW)).later hb2,S2,hB2,ToI.begin (rep_no n) (by rw[zq HYD];exact hs2) ((zq HIN).at q)⟩
  have CR:=zk (run_l (ToM b w.heap.size gs n n q (.slice a n cL) (.slice a1 n1 c1) (.slice none 0 0) L) 121 b w.heap.size n HE _ _ _ _ v2 l2 w2 (by omega) D2 (ToM.run _) (to_step b w.heap.size gs n n q w2.heap.size _ _ _ L (zq HIN) hnn (zq HL0) hn D1 D2 hg2.2 hw2 hBX) hM)
  have HB2:=zk hb2
  clear hq2 hp2 hB2 hn2 hs2 hb2 hM
  go_wp2_with fail
  refine(zq CR).mono ?_
  rintro e w3 ⟨v',out,vq,rfl,O3,M3,B3⟩
  obtain⟨S3,-,I3⟩:=M3.go
  have HO:=zk (Xi O3 hBX)
  have HI:=zk I3
  have HB3:=zk (((zq HFW).trans (zq HB2)).trans B3)
  clear CR O3 M3 B3 I3
  go_wp2_with fail
  go_ret
  exact⟨v',out,rfl,zq HO,by simpa using (zq HI).nd,(zq HI).done,by simpa using (zq HI).small,zq HB3⟩
theorem index_l (v:Value) (l:List Int) (y:Int) (w:World) (h:Ns w v l) (hl:l.length≤1000000):
  Calls Tryz.prog 120 #[v,.int .i64 y] w fun e w'=>∃r:Int,e= .returned (.int .i64 r)∧(0≤r↔y∈l)∧w'=w:=by
 obtain⟨a,c,rfl,hc1,hc2,h3⟩:=h
 unfold maxLen at hc2
 have H3:=zk h3
 clear h3
 generalize hn:l.length=n at*
 have HN:=zk hn
 clear hn
 go_enter Tryz.func120,Tryz.ntmps120
 go_wp2_with fail
 go_loopw [8] (fun i wr=>∃k:Nat,k≤n∧i= .int .i64 (k:Int)∧Hid (∀j,j<k→l[j]?≠some y)∧wr=w) (fun i _=>n-(intOf i).toNat)
 case atStart=>exact⟨0,Nat.zero_le _,rfl,fun j hj=>absurd hj (Nat.not_lt_zero _),rfl⟩
 case round=>
  obtain⟨k,hk,rfl,hA,hw⟩:=hrel
  subst hw
  by_cases hlt:k<n
  ·obtain⟨x,hx⟩:∃x,l[k]? =some x:=⟨l[k]'(by have:=zq HN;omega),List.getElem?_eq_getElem _⟩
   obtain⟨g,off,rfl,hg,q⟩:=zq H3 k x hx
   have HX:=zk hx
   clear hx
   by_cases hxy:x=y
   ·subst hxy
    go_wp2_with fail
    go_ret
    exact⟨k,rfl,⟨fun _=>List.mem_of_getElem? (zq HX),fun _=>by omega⟩,rfl⟩
   ·have hb:(y==x)=false:=by simpa using fun e=>hxy (by rw[e])
    have hb2:(x==y)=false:=by simpa using hxy
    go_wp2_with fail
    go_roundw
    case rel=>exact⟨k+1,by omega,by simp,fun j hj=>by
     rcases Nat.lt_succ_iff_lt_or_eq.1 hj with h|h
     ·exact zq hA j h
     ·subst h;rw[zq HX];intro e;exact hxy (Option.some.inj e),trivial⟩
    case measure=>simp only[intOf];omega
  ·obtain rfl:k=n:=by omega
   go_wp2_with fail
   go_ret
   refine⟨-1,rfl,⟨fun h=>absurd h (by decide),fun h=> ?_⟩,rfl⟩
   obtain⟨j,hj⟩:=List.getElem?_of_mem h
   have:=(List.getElem?_eq_some_iff.1 hj).1
   exact absurd hj (zq hA j (by rw[←zq HN];exact this))
theorem contains_l (v:Value) (l:List Int) (y:Int) (w:World) (h:Ns w v l) (hl:l.length≤1000000):
  Calls Tryz.prog 76 #[v,.int .i64 y] w fun e w'=>∃r:Bool,e= .returned (.bool r)∧(r=true↔y∈l)∧w'=w:=by
 have CI:=zk (index_l v l y w h hl)
 obtain⟨a,c,rfl,-,-,-⟩:=h
 generalize l.length=n at*
 go_enter Tryz.func76,Tryz.ntmps76
 go_wp2_with fail
 refine(zq CI).mono ?_
 rintro e w1 ⟨r,rfl,hr,hw⟩
 subst hw
 have HR:=zk hr
 clear hr CI
 go_wp2_with fail
 go_ret
 exact⟨decide (0≤r),rfl,by rw[decide_eq_true_iff];exact zq HR,rfl⟩
theorem isCircle_l (q cL n1 c1:Nat) (a a1:Option Addr) (L:List (List Int)) (w:World) (hL:KvB w.heap.size w (.slice a L.length cL) L) (hin:InN L L.length) (hl0:∀l∈L,l.length≤1000) (hn:L.length≤900000) (hq:q<L.length):
  Calls Tryz.prog 47 #[.agg #[.slice a L.length cL,.slice a1 n1 c1],.int .i64 (q:Int)] w fun e w'=>∃r:Bool,e= .returned (.bool r)∧(r=true↔Cms L q (q:Int))∧Below w.heap.size w w':=by
 have CT:=zk (fun W (bW:Below w.heap.size w W)=>to_l q cL n1 c1 a a1 L W ((hL.later bW).mono bW.size) hin hl0 hn hq)
 clear hL hin hl0
 have HLn:=zk hn
 generalize hnn:L.length=n at*
 go_enter Tryz.func47,Tryz.ntmps47
 go_wp2_with fail
 refine(zq CT _ (Below.new1 _)).mono ?_
 rintro e w1 ⟨v',out,rfl,O1,hd,hm,hlen,B1⟩
 have CC:=zk (contains_l v' out q w1 (Ns.of_own O1) (by omega))
 have HM:=zk hm
 have HB:=zk ((Below.new1 (.cells #[.slice a n cL,.slice a1 n1 c1] 62)).trans (B1.mono (by simp)))
 obtain⟨a2,n2,c2,rfl⟩:=Xa O1
 clear CT O1 B1 hd hm
 go_wp2_with fail
 refine(zq CC).mono ?_
 rintro e w2 ⟨r,rfl,hr,hw⟩
 subst hw
 clear CC
 have HR:=zk hr
 clear hr
 go_wp2_with fail
 go_ret
 exact⟨r,rfl,(zq HR).trans (zq HM _),zq HB⟩
theorem least_l (many F:Nat) (rv:Value) (P:Nat→Prop) (w:World) (HE:∀args W,(callFunc F args).run Tryz.prog W= .ok (.enter F args) W) (hm:many≤1000000)
  (hC:∀k,k<many→∀W,Below w.heap.size w W→Calls Tryz.prog F #[rv,.int .i64 (k:Int)] W fun e w'=>∃r:Bool,e= .returned (.bool r)∧(r=true↔P k)∧Below W.heap.size W w'):
  Calls Tryz.prog 46 #[.int .i64 (many:Int),.func (.func F) #[rv] #[]] w fun e w'=>∃R:Int,e= .returned (.int .i64 R)∧((R= -1∧∀k,k<many→¬P k)∨∃k:Nat,k<many∧R=k∧P k∧∀j,j<k→¬P j)∧Below w.heap.size w w':=by
 have HC:=zk hC
 clear hC
 go_enter Tryz.func46,Tryz.ntmps46
 go_wp2_with fail
 go_loopw [7] (fun i wr=>∃k:Nat,k≤many∧i= .int .i64 (k:Int)∧Hid (∀j,j<k→¬P j)∧Hid (Below w.heap.size w wr)) (fun i _=>many-(intOf i).toNat)
 case atStart=>exact⟨0,Nat.zero_le _,rfl,fun j hj=>absurd hj (Nat.not_lt_zero _),Below.refl _ _⟩
 case round=>
  obtain⟨k,hk,rfl,hA,hB⟩:=hrel
  by_cases hlt:k<many
  ·have CE:=zk (zq HC k hlt _ (zq hB))
   go_wp2_with fail
   refine(zq CE).mono ?_
   rintro e w1 ⟨r,rfl,hr,b1⟩
   clear CE
   have HB1:=zk ((zq hB).trans (b1.mono (zq hB).size))
   have HR:=zk hr
   clear b1 hr
   cases r with
   |true=>
    go_wp2_with fail
    go_ret
    exact⟨k,rfl,.inr ⟨k,hlt,rfl,by simpa using zq HR,zq hA⟩,zq HB1⟩
   |false=>
    go_wp2_with fail
    go_roundw
    case rel=>exact⟨k+1,by omega,by simp,fun j hj=>by
     rcases Nat.lt_succ_iff_lt_or_eq.1 hj with h|h
     ·exact zq hA j h
     ·subst h;intro p;have q:=zq HR;simp at q;exact q p,HB1⟩
    case measure=>simp only[intOf];omega
  ·obtain rfl:k=many:=by omega
   go_wp2_with fail
   go_ret
   exact⟨-1,rfl,.inl ⟨rfl,zq hA⟩,zq hB⟩
theorem left_zero {l out:List Int}:left l out=0↔∀y∈l,y∈out:=by
 unfold left
 rw[List.length_eq_zero_iff,List.filter_eq_nil_iff]
 constructor
 ·intro h y hy
  have:=h y hy
  simpa using this
 ·intro h y hy
  simpa using h y hy
theorem left_not {l out:List Int} {m:Int} (h:m∉l):left l (out++[m])=left l out:=by
 unfold left
 congr 1
 apply List.filter_congr
 intro y hy
 have:y≠m:=fun e=>h (e▸hy)
 simp[this]
theorem left_one:∀{l out:List Int} {m:Int},l.Nodup→m∈l→m∉out→left l out=left l (out++[m])+1:=by
 intro l
 induction l with
 |nil=>intro out m _ h _;cases h
 |cons a t ih=>
  intro out m hd hm ho
  rw[List.nodup_cons]at hd
  by_cases e:a=m
  ·subst e
   have h2:=left_not (out:=out) hd.1
   unfold left at h2⊢
   rw[List.filter_cons_of_pos (by simpa using ho),List.filter_cons_of_neg (by simp),h2]
   rfl
  ·have hm':m∈t:=by
    rcases List.mem_cons.1 hm with h|h
    ·exact absurd h.symm e
    ·exact h
   have h2:=ih hd.2 hm' ho
   unfold left at h2⊢
   by_cases ha:a∈out
   ·rw[List.filter_cons_of_neg (by simpa using ha),List.filter_cons_of_neg (by simp[ha])];exact h2
   ·rw[List.filter_cons_of_pos (by simpa using ha),List.filter_cons_of_pos (by simp[ha,e])]
    simp only[List.length_cons,h2]
structure Kin (L O:List (List Int)) (n:Nat):Prop where
 ll:L.length=n
 ol:O.length=n
 nd:∀m,(L.getD m []).Nodup
 od:∀m,(O.getD m []).Nodup
 iff:∀m k:Nat,(k:Int)∈O.getD m []↔(m:Int)∈L.getD k []
 oin:InN O n
 lin:InN L n
structure OrI (L:List (List Int)) (n:Nat) (W l out:List Int):Prop where
 nd:(out++l).Nodup
 rng:∀y∈out++l,∃m:Nat,y=(m:Int)∧m<n
 wait:∀m,m<n→W.getD m 0=(left (L.getD m []) out:Nat)
 may:∀m:Nat,m<n→((m:Int)∈out++l↔left (L.getD m []) out=0)
 ord:∀(i m:Nat),out[i]? =some (m:Int)→∀y∈L.getD m [],y∈out.take i
 least:∀(i m:Nat),out[i]? =some (m:Int)→∀k:Nat,k<n→(k:Int)∉out.take i→(∀y∈L.getD k [],y∈out.take i)→m≤k
theorem OrI.small {L:List (List Int)} {n:Nat} {W l out:List Int} (h:OrI L n W l out):out.length+l.length≤n:=by
 have:=nd_len n _ h.nd h.rng
 rw[List.length_append]at this;exact this
theorem OrI.step {L O:List (List Int)} {n m:Nat} {W W' l l1 l2 out:List Int} (hk:Kin L O n) (h:OrI L n W l out) (hl:l.Perm ((m:Int)::l1)) (hle:∀x∈l,(m:Int)≤x) (hs:Fr W l1 W' l2 (O.getD m [])):OrI L n W' l2 (out++[(m:Int)]):=by
 obtain⟨add,hp,hd,-,hm⟩:=hs.add
 have P:((out++[(m:Int)])++l2).Perm ((out++l)++add):=by
  have a1:((out++[(m:Int)])++l2).Perm ((out++[(m:Int)])++(l1++add)):=List.Perm.append_left _ hp
  refine a1.trans ?_
  rw[←List.append_assoc,List.append_assoc out]
  exact List.Perm.append_right _ (List.Perm.append_left _ hl.symm)
 have hmem:∀x,x∈(out++[(m:Int)])++l2↔x∈out++l∨x∈add:=fun x=>by rw[P.mem_iff,List.mem_append]
 have hml:(m:Int)∈l:=hl.symm.subset (by simp)
 have hin:(m:Int)∈out++l:=List.mem_append_right _ hml
 have hno:(m:Int)∉out:=fun ho=>by
  have:=h.nd
  rw[List.nodup_append]at this
  exact this.2.2 _ ho _ hml rfl
 obtain⟨m',e,hmn⟩:=h.rng _ hin
 obtain rfl:m=m':=by omega
 have hrO:=hk.oin.at m
 -- who is let in: all its lefts but the new one were there
 have hadd:∀k:Nat,k<n→((k:Int)∈add↔((m:Int)∈L.getD k []∧left (L.getD k []) out=1)):=fun k hkn=>by
  rw[hm,hk.iff,show((k:Int)).toNat=k from rfl,h.wait k hkn]
  exact⟨fun a=>⟨a.1,by have:=a.2;omega⟩,fun a=>⟨a.1,by omega⟩⟩
 have hwait:∀k,k<n→W'.getD k 0=(left (L.getD k []) (out++[(m:Int)]):Nat):=fun k hkn=>by
  rw[hs.wait k,h.wait k hkn]
  by_cases hkm:(m:Int)∈L.getD k []
  ·rw[if_pos ((hk.iff m k).2 hkm),left_one (hk.nd k) hkm hno];omega
  ·rw[if_neg (fun e=>hkm ((hk.iff m k).1 e)),left_not hkm];omega
 have haddn:∀y∈add,∃k:Nat,y=(k:Int)∧k<n:=fun y hy=>hrO y ((hm y).1 hy).1
 have hlast:∀(i k:Nat),(out++[(m:Int)])[i]? =some (k:Int)→(i<out.length∧out[i]? =some (k:Int)∧(out++[(m:Int)]).take i=out.take i)∨(i=out.length∧k=m∧(out++[(m:Int)]).take i=out):=by
  intro i k hi
  by_cases hlt:i<out.length
  ·rw[List.getElem?_append_left hlt]at hi
   exact .inl ⟨hlt,hi,List.take_append_of_le_length (by omega)⟩
  ·have hi2:=(List.getElem?_eq_some_iff.1 hi).1
   simp at hi2
   obtain rfl:i=out.length:=by omega
   simp at hi
   exact .inr ⟨rfl,by omega,by simp⟩
 refine⟨P.symm.nodup ?_,fun y hy=> ?_,hwait,fun k hkn=> ?_,fun i k hi y hy=> ?_,fun i k hi j hj hjn hjl=> ?_⟩
 ·rw[List.nodup_append]
  refine⟨h.nd,hd,fun a ha c hc e=> ?_⟩
  subst e
  obtain⟨k,rfl,hkn⟩:=haddn a hc
  have h1:=((hadd k hkn).1 hc).2
  have h2:=(h.may k hkn).1 ha
  omega
 ·rcases (hmem y).1 hy with hy|hy
  ·exact h.rng y hy
  ·exact haddn y hy
 ·rw[hmem,h.may k hkn,hadd k hkn]
  by_cases hkm:(m:Int)∈L.getD k []
  ·have:=left_one (hk.nd k) hkm hno
   constructor
   ·rintro(a|⟨-,a⟩)<;>omega
   ·intro a;exact .inr ⟨hkm,by omega⟩
  ·have:=left_not (out:=out) hkm
   constructor
   ·rintro(a|⟨a,-⟩)
    ·omega
    ·exact absurd a hkm
   ·intro a;exact .inl (by omega)
 ·rcases hlast i k hi with ⟨h1,h2,h3⟩|⟨h1,rfl,h3⟩
  ·rw[h3];exact h.ord i k h2 y hy
  ·rw[h3]
   exact left_zero.1 ((h.may k hmn).1 hin) y hy
 ·rcases hlast i k hi with ⟨h1,h2,h3⟩|⟨h1,rfl,h3⟩
  ·rw[h3]at hjn hjl;exact h.least i k h2 j hj hjn hjl
  ·rw[h3]at hjn hjl
   have:=(h.may j hj).2 (left_zero.2 hjl)
   rcases List.mem_append.1 this with a|a
   ·exact absurd a hjn
   ·have:=hle _ a;omega
theorem left_le (l out:List Int):left l out≤l.length:=List.length_filter_le _ _
structure OrM (b B gs n c:Nat) (x0 x1 x4:Value) (L O:List (List Int)) (W:World) (v:Value) (l out:List Int):Prop where
 qu:QuV W b B x0 x1 v (.slice (some ⟨gs,0,none⟩) n c) x4 l
 hp:Hp l
 ne:v.ownBlock≠some gs
 row:KvB B W x1 O
 go:∃S,QR W B gs n c S∧OrI L n S l out
theorem OrM.run {b B gs n c:Nat} {x0 x1 x4:Value} {L O:List (List Int)} (N0:Nat):RunM (OrM b B gs n c x0 x1 x4 L O) N0 b B n x0 x1 (.slice (some ⟨gs,0,none⟩) n c) x4:=
 ⟨fun W v l out h=>⟨h.qu,h.hp,by obtain⟨S,-,hi⟩:=h.go;exact hi.small⟩⟩
theorem or_step (b B gs n c N0:Nat) (x0 x1 x4:Value) (L O:List (List Int)) (hK:Kin L O n) (hl0:∀m,(L.getD m []).length≤1000) (hn:n≤400000) (hbg:b≠gs) (hBb:B≤b) (hg0:gs<N0) (hb0:b<N0) (hBN:B≤N0):
  StepC (OrM b B gs n c x0 x1 x4 L O) 69 N0 b B x0 x1 (.slice (some ⟨gs,0,none⟩) n c) x4:=by
 intro W W2 v v1 l l1 out hM hl hperm hp1 hq hv hfar hbel
 obtain⟨S,hS,hI⟩:=hM.go
 have hsm:=hI.small
 have hle:∀x∈l,l.getD 0 0≤x:=hM.hp.least_mem
 obtain⟨m,hx,hm⟩:=hI.rng (l.getD 0 0) (List.mem_append_right _ (hperm.symm.subset (by simp)))
 rw[hx]at hperm hle⊢
 have hl1:=hperm.length_eq
 rw[List.length_cons]at hl1
 have hol:=hK.ol
 obtain⟨ys,hys⟩:∃ys,O[m]? =some ys:=⟨O[m]'(by omega),List.getElem?_eq_getElem (by omega)⟩
 have hyD:O.getD m []=ys:=by rw[List.getD_eq_getElem?_getD,hys];rfl
 have hr:=hK.oin.at m
 have hd:=hK.od m
 rw[hyD]at hr hd
 have hysl:ys.length≤n:=nd_len n ys hd hr
 have hS2:QR W2 B gs n c S:=ju hS (fun g' e=>by have:=Option.some.inj e;subst this;exact hfar gs hg0 (fun e=>hbg e.symm) (fun e=>hM.ne e.symm))
 have hne1:v1.ownBlock≠some gs:=by rw[hv];exact hM.ne
 have hW0:∀x,x<n→0≤S.getD x 0∧S.getD x 0≤1000000:=fun x hx=>by
  rw[hI.wait x hx]
  have:=left_le (L.getD x []) out
  have:=hl0 x
  omega
 refine(free_l b B gs n c m x0 x1 x4 v1 S l1 ys O W2 hq hp1 hS2 hne1 hd hW0 (hM.row.later hbel) hys hbg hBb (by omega) (by omega) hr).mono ?_
 rintro e w' ⟨rfl,v2,l2,S2,hq2,hp2,hB2,hn2,hs2,hb2,hx2,far2⟩
 have hs2':Fr S l1 S2 l2 (O.getD m []):=by rw[hyD];exact hs2
 refine⟨rfl,v2,l2,⟨hq2,hp2,hn2,(hM.row.later hbel).later hb2,S2,hB2,hI.step hK hperm hle hs2'⟩,hx2,fun k h1 h2 h3=> ?_,hb2⟩
 by_cases hkb:k=b
 ·omega
 ·by_cases hkg:k=gs
  ·omega
  ·exact far2 k h1 hkb hkg h3
theorem OrI.ahead {L:List (List Int)} {n:Nat} {W l out:List Int} (h:OrI L n W l out):∀(k i q:Nat) (x:Int),out[i]? =some (q:Int)→cm L k q x→(∀y∈out,∃m:Nat,y=(m:Int))→x∈out.take i:=by
 intro k
 induction k with
 |zero=>intro i q x hi hx _;exact h.ord i q hi x hx
 |succ k ih=>
  intro i q x hi hx hr
  obtain⟨m,h1,h2⟩:=hx
  have hm:=ih i q m hi h1 hr
  obtain⟨j,hj⟩:=List.getElem?_of_mem hm
  have hjl:=(List.getElem?_eq_some_iff.1 hj).1
  rw[List.length_take]at hjl
  rw[List.getElem?_take_of_lt (by omega)]at hj
  have:=h.ord j m hj x h2
  exact(List.take_subset_take_left out (show j≤i by omega)) this
theorem OrI.noCircle {L:List (List Int)} {n:Nat} {W out:List Int} (h:OrI L n W [] out) {q:Nat} (hq:(q:Int)∈out):¬Cms L q (q:Int):=by
 rintro⟨k,hk⟩
 have hr:∀y∈out,∃m:Nat,y=(m:Int):=fun y hy=>by obtain⟨m,e,-⟩:=h.rng y (List.mem_append_left _ hy);exact⟨m,e⟩
 obtain⟨i,hi⟩:=List.getElem?_of_mem hq
 have:=h.ahead k i q q hi hk hr
 obtain⟨j,hj⟩:=List.getElem?_of_mem this
 have hjl:=(List.getElem?_eq_some_iff.1 hj).1
 rw[List.length_take]at hjl
 rw[List.getElem?_take_of_lt (by omega)]at hj
 have hd:=h.nd
 rw[List.append_nil]at hd
 have hil:=(List.getElem?_eq_some_iff.1 hi).1
 have:i=j:=(List.getElem?_inj hil hd).1 (by rw[hi,hj])
 omega
end Go.Proofs.YtcblkmlcbedomaaGreatDoor.K

/- Parts of the proof that stand ahead of it (R 5). -/
import Derived.Test.YtcblkmlcbedomaaGreatDoorRM4
import Derived.Test.YtcblkmlcbedomaaGreatDoorTM10
set_option linter.unusedVariables false
set_option linter.unusedSimpArgs false
set_option maxRecDepth 20000
set_option maxHeartbeats 16000000
namespace Go.Proofs.YtcblkmlcbedomaaGreatDoor.K
open Go.RowKit
structure QuV (w:World) (b base:Nat) (x0 x1 v x3 x4:Value) (l:List Int):Prop where
 bk:w.heap[b]? =some (.cells #[x0,x1,v,x3,x4] 68)
 own:w.ownsRow base 3 1 v l.length (l.map (Value.int .i64))
 ne:v.ownBlock≠some b
theorem Xi {W:World} {g:Nat} {x0 x1 x2 x3 x4:Value} {t:TypeId} (h:W.heap[g]? =some (.cells #[x0,x1,x2,x3,x4] t)):
  W.cell? ⟨g,0,none⟩=some x0∧W.cell? ⟨g,1,none⟩=some x1∧W.cell? ⟨g,2,none⟩=some x2∧W.cell? ⟨g,3,none⟩=some x3∧W.cell? ⟨g,4,none⟩=some x4∧∀i,W.frozen? ⟨g,i,none⟩=false:=by
 refine⟨?_,?_,?_,?_,?_,fun i=> ?_⟩<;>simp[World.cell?,World.frozen?,h]
structure Qs (b:Nat) (v:Value) (w w':World):Prop where
 os:w'.os=w.os
 tape:w'.tape=w.tape
 output:w'.output=w.output
 size:w.heap.size≤w'.heap.size
 block:∀k,k<w.heap.size→k≠b→some k≠v.ownBlock→w'.heap[k]? =w.heap[k]?
def Nxt (w:World) (v v':Value):Prop:=v'.ownBlock=v.ownBlock∨∃g,v'.ownBlock=some g∧w.heap.size≤g
theorem Nxt.refl (w:World) (v:Value):Nxt w v v:= .inl rfl
theorem Nxt.then {w w1:World} {v v1 v2:Value} (h:Nxt w v v1) (k:Nxt w1 v1 v2) (s:w.heap.size≤w1.heap.size):Nxt w v v2:=by
 rcases k with k|⟨g,k,hg⟩
 ·rcases h with h|⟨g,h,hg⟩
  ·exact .inl (k.trans h)
  ·exact .inr ⟨g,k.trans h,hg⟩
 ·exact .inr ⟨g,k,Nat.le_trans s hg⟩
theorem Qs.then {b:Nat} {v v1:Value} {w w1 w2:World} (h:Qs b v w w1) (k:Qs b v1 w1 w2) (hn:Nxt w v v1):Qs b v w w2:=
 ⟨k.os.trans h.os,k.tape.trans h.tape,k.output.trans h.output,Nat.le_trans h.size k.size,fun x h1 h2 h3=>by
  refine(k.block x (Nat.lt_of_lt_of_le h1 h.size) h2 (fun e=> ?_)).trans (h.block x h1 h2 h3)
  rcases hn with hn|⟨g,hn,hg⟩
  ·exact h3 (e.trans hn)
  ·rw[hn]at e;have:=Option.some.inj e;omega⟩
theorem Qs.grown {b:Nat} {v:Value} {w w1:World} (h:w.grownBy w1 v.ownBlock):Qs b v w w1:=⟨h.os,h.tape,h.output,h.size,fun k h1 _ h3=>h.block k h1 h3⟩
theorem Qs.setb {b:Nat} {v:Value} (w:World) (i:Nat) (u:Value):Qs b v w (w.setCell ⟨b,i,none⟩ u):=
 ⟨rfl,rfl,rfl,by simp,fun k _ h2 _=>heap_setCell_other w ⟨b,i,none⟩ k u (by simpa using h2)⟩
theorem QuV.lt {w:World} {b base:Nat} {x0 x1 v x3 x4:Value} {l:List Int} (h:QuV w b base x0 x1 v x3 x4 l):b<w.heap.size:=(Array.getElem?_eq_some_iff.1 h.bk).1
theorem QuV.row {w:World} {b base:Nat} {x0 x1 v x3 x4:Value} {l:List Int} (h:QuV w b base x0 x1 v x3 x4 l) (hl:0<l.length):∃g c,v= .slice (some ⟨g,0,none⟩) l.length c∧QR w base g l.length c l∧b≠g:=by
 obtain⟨g,c,rfl,-,-⟩:=h.own.form hl
 exact⟨g,c,rfl,h.own,fun e=>h.ne (by rw[e];rfl)⟩
theorem QuV.tnd {w w':World} {b base g c n:Nat} {x0 x1 x3 x4:Value} {l l':List Int} (h:QuV w b base x0 x1 (.slice (some ⟨g,0,none⟩) n c) x3 x4 l) (hn:l.length=n) (hbg:b≠g) (k:Tnd w w' base g n c l l'):QuV w' b base x0 x1 (.slice (some ⟨g,0,none⟩) n c) x3 x4 l'∧Qs b (.slice (some ⟨g,0,none⟩) n c) w w':=by
 refine⟨⟨(k.2.2.block b h.lt (fun e=>hbg (Option.some.inj e))).trans h.bk,?_,h.ne⟩,Qs.grown k.2.2⟩
 have:=k.2.1
 unfold QR at this
 rw[k.2.1.len];exact this
theorem intT_info:(Tryz.prog.info? 3).map (fun i=>(i.zero,i.size,i.bytes))=some (some (.int .i64 0),1,8):=by kernel_rfl
theorem infoT {t:TypeId} {z:Value} {n m:Nat} (h:(Tryz.prog.info? t).map (fun i=>(i.zero,i.size,i.bytes))=some (some z,n,m)):∃i,Tryz.prog.info? t=some i∧i.zero=some z∧i.size=n∧i.bytes=m:=by
 cases hi:Tryz.prog.info? t with
 |none=>rw[hi]at h;cases h
 |some i=>
  rw[hi]at h
  simp only[Option.map_some,Option.some.injEq,Prod.mk.injEq]at h
  exact⟨i,rfl,h.1,h.2.1,h.2.2⟩
theorem new_int (w:World) (x:Int) {g:Nat} (h:w.heap[g]? =some (.cells #[.int .i64 x] 3)):∀(j:Nat) (u:Value),[Value.int .i64 x][j]? =some u→w.cell? ((⟨g,0,none⟩:Addr).add j)=some u:=by
 intro j u hu
 match j,hu with
 |0,hu=>simp at hu;subst hu;simp[World.cell?,Addr.add,h]
theorem tassert (x:Int) (W:World):(Instr.typeAssert (.iface 3 (.int .i64 x)) 20 3 false).run Tryz.prog W= .ok (.int .i64 x) W:=by kernel_rfl
theorem pushed {w w6:World} {b base g cap n:Nat} {x0 x1 v x3 x4:Value} {l:List Int} {x:Int} {o:Obj} (hbk:w.heap[b]? =some (.cells #[x0,x1,v,x3,x4] 68)) (hlt:b<w.heap.size) (hne:v.ownBlock≠some b) (hb:base≤w.heap.size)
  (own:w6.ownsRow base 3 1 (.slice (some ⟨g,0,none⟩) (n+1) cap) (n+1) (l.map (Value.int .i64)++[.int .i64 x])) (gr:(w.alloc o).grownBy w6 v.ownBlock) (at_:v.ownBlock=some g∨g=w.heap.size+1) (k6:w6.heap[b]? =some (.cells #[x0,x1,v,x3,x4] 68)) (hn:l.length=n):
  ∃v',QuV (w6.setCell ⟨b,2,none⟩ (.slice (some ⟨g,0,none⟩) (n+1) cap)) b base x0 x1 v' x3 x4 (l++[x])∧Qs b v w (w6.setCell ⟨b,2,none⟩ (.slice (some ⟨g,0,none⟩) (n+1) cap))∧Nxt w v v':=by
 have hgb:g≠b:=by
  rintro rfl
  rcases at_ with h|h
  ·exact hne h
  ·omega
 have q:Qs b v w (w6.setCell ⟨b,2,none⟩ (.slice (some ⟨g,0,none⟩) (n+1) cap)):=by
  have a1:Qs b v w (w.alloc o):=⟨rfl,rfl,rfl,by simp,fun k hk _ _=>heap_alloc_old w o hk⟩
  have a2:Qs b v (w.alloc o) w6:=Qs.grown gr
  have a3:=a1.then a2 (Nxt.refl _ _)
  have a4:=a3.then (Qs.setb w6 2 (.slice (some ⟨g,0,none⟩) (n+1) cap)) (Nxt.refl _ _)
  exact⟨a4.os,a4.tape,a4.output,a4.size,a4.block⟩
 refine⟨.slice (some ⟨g,0,none⟩) (n+1) cap,⟨?_,?_,fun e=>hgb (Option.some.inj e)⟩,q,?_⟩
 ·exact(heap_setCell_same w6 b 2 _ _ _ k6).trans (by simp)
 ·have:=own.kept (w':=(w6.setCell ⟨b,2,none⟩ (.slice (some ⟨g,0,none⟩) (n+1) cap))) (row:=some b) ⟨rfl,rfl,rfl,by simp,fun k _ h2=>heap_setCell_other w6 ⟨b,2,none⟩ k _ (fun e=>h2 (by simp[e]))⟩ (.inr (fun e=>hgb (Option.some.inj e)))
  rw[List.length_append,List.length_singleton,hn,List.map_append]
  exact this
 ·rcases at_ with h|h
  ·exact .inl h.symm
  ·exact .inr ⟨g,rfl,by omega⟩
theorem qPush_l (b base:Nat) (x0 x1 v x3 x4:Value) (l:List Int) (x:Int) (w:World) (h:QuV w b base x0 x1 v x3 x4 l) (hl:l.length≤1000000) (hbb:base≤w.heap.size):
  Calls Tryz.prog 291 #[.pointer (some ⟨b,2,none⟩),.iface 3 (.int .i64 x)] w fun e w'=>e= .returned (.tuple #[])∧∃v',QuV w' b base x0 x1 v' x3 x4 (l++[x])∧Qs b v w w'∧Nxt w v v':=by
 obtain⟨-,-,hc,-,-,hz⟩:=Xi h.bk
 have hz2:=hz 2
 obtain⟨ti,hi0,hz0,hz1,hzb⟩:=infoT intT_info
 have HO:=h.own
 have HNE:=zk h.ne
 have HBK:=zk h.bk
 have hlt:=h.lt
 clear h hz
 generalize hn:l.length=n at*
 have HN:=zk hn
 clear hn
 have ta:∀W:World,(Instr.typeAssert (.iface 3 (.int .i64 x)) 20 3 false).run Tryz.prog W= .ok (.int .i64 x) W:=fun W=>tassert x W
 go_enter Tryz.func291,Tryz.ntmps291
 go_wp2_with fail
 refine wp_region_held_drew (S:=(fun _=>True)) (by kernel_rfl) trivial (fun hHeld=> ?_)
 refine tkh 0 ?_ rfl (by kernel_rfl) (fun _ _ _ h=>h) ?_ (by assumption) ?_
 rotate_left
 ·intro w hSw;(try dsimp only at hSw);go_simp;(try with_reducible rfl)
 try simp only[pls]
 refine tkh 1 ?_ rfl (by kernel_rfl) (fun _ _ _ h=>h) ?_ (by assumption) ?_
 rotate_left
 ·intro w hSw;(try dsimp only at hSw);go_simp;(try with_reducible rfl)
 try simp only[pls]
 refine tkh 2 ?_ rfl (by kernel_rfl) (fun _ _ _ h=>h) ?_ (by assumption) ?_
 rotate_left
 ·intro w hSw;(try dsimp only at hSw);go_simp;(try with_reducible rfl)
 try simp only[pls]
 refine tkh 4 ?_ rfl (by kernel_rfl) (fun _ _ _ h=>h) ?_ (by assumption) ?_
 rotate_left
 ·intro w hSw;(try dsimp only at hSw);go_simp;(try with_reducible rfl)
 try simp only[pls]
 refine tkh 5 ?_ rfl (by kernel_rfl) (fun _ _ _ h=>h) ?_ (by assumption) ?_
 rotate_left
 ·intro w hSw;(try dsimp only at hSw);go_simp;(try with_reducible rfl)
 try simp only[pls]
 refine wpAnyH_ready (rs:=[3,6]) (by kernel_rfl) (by simp) ?_
 refine AllReadyH.cons rfl (fun K hK=> ?_) (AllReadyH.cons rfl (fun K hK=> ?_) AllReadyH.nil)
 ·go_simp
  refine hK.out _ _ trivial (fun hHeld=> ?_)
  clear hK K
  try simp only[pls]
  refine wpAnyH_ready (rs:=[6]) (by kernel_rfl) (by simp) ?_
  refine AllReadyH.cons rfl (fun K hK=> ?_) AllReadyH.nil
  go_simp
  refine hK.out _ _ trivial (fun hHeld=> ?_)
  clear hK K
  try simp only[pls]
  refine wpAnyH_ready (rs:=[7]) (by kernel_rfl) (by simp) ?_
  refine AllReadyH.cons rfl (fun K hK=> ?_) AllReadyH.nil
  refine step_append_lies _ rfl _ _ 66 rfl base 3 ti _ 1 8 Tryz.underlying66 hi0 hz0 hz1 hzb rfl (by omega) _ _ _ rfl (HO.alloc _) ⟨w.heap.size,0,none⟩ 1 1 [.int .i64 x] rfl rfl (new_int _ _ (heap_alloc_new w _)) (by simp[Value.oneCell']) (by omega) (by unfold maxLen;omega) (by omega) (by simp;omega) (w.heap.size+1) (by simp) ?_
  intro gg cap1 w6 hown1 hgrow hat hlt1
  have k6:w6.heap[b]? =some (.cells #[x0,x1,v,x3,x4] 68):=(hgrow.block b (by simp;omega) (fun e=>zq HNE e.symm)).trans ((heap_alloc_old w _ hlt).trans (zq HBK))
  obtain⟨-,-,q2,-,-,qz⟩:=Xi k6
  have qz2:=qz 2
  have FIN:=zk (pushed (zq HBK) hlt (zq HNE) hbb hown1 (o:= .cells #[.int .i64 x] 3) ⟨hgrow.os,hgrow.tape,hgrow.output,hgrow.size,hgrow.block⟩ hat k6 (zq HN))
  clear hown1 hgrow hat k6 qz
  refine hK.out _ _ trivial (fun hHeld=> ?_)
  clear hK K
  try simp only[pls]
  refine tkh 8 ?_ rfl (by kernel_rfl) (fun _ _ _ h=>h) ?_ (by assumption) ?_
  rotate_left
  ·intro w hSw;(try dsimp only at hSw);go_simp;(try with_reducible rfl)
  try simp only[pls]
  refine wpAnyH_ready (rs:=[9]) (by kernel_rfl) (by simp) ?_
  refine AllReadyH.cons rfl (fun K hK=> ?_) AllReadyH.nil
  go_simp
  refine hK.out _ _ trivial (fun hHeld=> ?_)
  clear hK K
  try simp only[pls]
  refine wpAnyH_done (by kernel_rfl) ?_ _
  refine bodyPost_end (results_none rfl _ _ _) rfl ?_
  exact⟨rfl,zq FIN⟩
 ·go_simp
  refine hK.out _ _ trivial (fun hHeld=> ?_)
  clear hK K
  try simp only[pls]
  refine wpAnyH_ready (rs:=[3]) (by kernel_rfl) (by simp) ?_
  refine AllReadyH.cons rfl (fun K hK=> ?_) AllReadyH.nil
  go_simp
  refine hK.out _ _ trivial (fun hHeld=> ?_)
  clear hK K
  try simp only[pls]
  refine wpAnyH_ready (rs:=[7]) (by kernel_rfl) (by simp) ?_
  refine AllReadyH.cons rfl (fun K hK=> ?_) AllReadyH.nil
  refine step_append_lies _ rfl _ _ 66 rfl base 3 ti _ 1 8 Tryz.underlying66 hi0 hz0 hz1 hzb rfl (by omega) _ _ _ rfl (HO.alloc _) ⟨w.heap.size,0,none⟩ 1 1 [.int .i64 x] rfl rfl (new_int _ _ (heap_alloc_new w _)) (by simp[Value.oneCell']) (by omega) (by unfold maxLen;omega) (by omega) (by simp;omega) (w.heap.size+1) (by simp) ?_
  intro gg cap1 w6 hown1 hgrow hat hlt1
  have k6:w6.heap[b]? =some (.cells #[x0,x1,v,x3,x4] 68):=(hgrow.block b (by simp;omega) (fun e=>zq HNE e.symm)).trans ((heap_alloc_old w _ hlt).trans (zq HBK))
  obtain⟨-,-,q2,-,-,qz⟩:=Xi k6
  have qz2:=qz 2
  have FIN:=zk (pushed (zq HBK) hlt (zq HNE) hbb hown1 (o:= .cells #[.int .i64 x] 3) ⟨hgrow.os,hgrow.tape,hgrow.output,hgrow.size,hgrow.block⟩ hat k6 (zq HN))
  clear hown1 hgrow hat k6 qz
  refine hK.out _ _ trivial (fun hHeld=> ?_)
  clear hK K
  try simp only[pls]
  refine tkh 8 ?_ rfl (by kernel_rfl) (fun _ _ _ h=>h) ?_ (by assumption) ?_
  rotate_left
  ·intro w hSw;(try dsimp only at hSw);go_simp;(try with_reducible rfl)
  try simp only[pls]
  refine wpAnyH_ready (rs:=[9]) (by kernel_rfl) (by simp) ?_
  refine AllReadyH.cons rfl (fun K hK=> ?_) AllReadyH.nil
  go_simp
  refine hK.out _ _ trivial (fun hHeld=> ?_)
  clear hK K
  try simp only[pls]
  refine wpAnyH_done (by kernel_rfl) ?_ _
  refine bodyPost_end (results_none rfl _ _ _) rfl ?_
  exact⟨rfl,zq FIN⟩
theorem hpush_l (b base:Nat) (x0 x1 v x3 x4:Value) (l:List Int) (x:Int) (w:World) (h:QuV w b base x0 x1 v x3 x4 l) (hl:l.length≤999999) (hb:base≤w.heap.size) (hp:Hp l):
  Calls Tryz.prog 114 #[qh b,.iface 3 (.int .i64 x)] w fun e w'=>e= .returned (.tuple #[])∧∃v' l',l'.Perm (x::l)∧Hp l'∧QuV w' b base x0 x1 v' x3 x4 l'∧Qs b v w w'∧Nxt w v v':=by
 have CP:=zk (qPush_l b base x0 x1 v x3 x4 l x w h (by omega) hb)
 have CN:=zk (fun a n c W=>qLen_l a n c W)
 have CU:=zk (fun g c l' W hc hbg h hu (hn:l'.length=l.length+1)=>up_l b base g (l.length+1) c l.length l' W hc hbg h (by omega) (by omega) hu)
 have US:=zk (UpI.snoc hp x)
 have mP:=mPush b w
 have e1:((l.length+1:Nat):Int)-1=(l.length:Int):=by omega
 have e2:(l.length:Int)+1-1=(l.length:Int):=by omega
 clear h hp
 go_enter Tryz.func114,Tryz.ntmps114
 go_wp2_with fail
 refine(zq CP).mono ?_
 rintro e w1 ⟨rfl,v1,q1,k1,n1⟩
 obtain⟨g,c,hv,hr,hbg⟩:=q1.row (by simp)
 subst hv
 rw[show(l++[x]).length=l.length+1 by simp]at q1 hr
 obtain⟨-,-,hc,-⟩:=Xi q1.bk
 have CU1:=zk (zq CU g c _ w1 hc hbg hr (zq US) (by simp))
 have mN:=mLen hc
 have HQ:=zk q1
 have HK:=zk k1
 have HN:=zk n1
 clear CP CU US mP q1 k1 n1 hr hc
 go_wp2_with fail
 refine(zq CN _ _ _ _).mono ?_
 rintro e w2 ⟨rfl,hw⟩
 subst hw
 clear CN mN
 go_wp2_with fail
 refine(zq CU1).mono ?_
 rintro e w3 ⟨rfl,l3,hp3,t3⟩
 obtain⟨q3,k3⟩:=QuV.tnd (zq HQ) (by simp) hbg t3
 clear CU1
 go_wp2_with fail
 refine bodyPost_end (results_none rfl _ _ _) rfl ?_
 exact⟨rfl,_,l3,t3.1.trans List.perm_append_comm,hp3,q3,(zq HK).then k3 (zq HN),zq HN⟩
theorem put_l (b base:Nat) (x0 x1 v x3 x4:Value) (l:List Int) (x:Int) (w:World) (h:QuV w b base x0 x1 v x3 x4 l) (hl:l.length≤999999) (hb:base≤w.heap.size) (hp:Hp l):
  Calls Tryz.prog 68 #[.pointer (some ⟨b,2,none⟩),.int .i64 x] w fun e w'=>e= .returned (.tuple #[])∧∃v' l',l'.Perm (x::l)∧Hp l'∧QuV w' b base x0 x1 v' x3 x4 l'∧Qs b v w w'∧Nxt w v v':=by
 have CP:=zk (hpush_l b base x0 x1 v x3 x4 l x w h hl hb hp)
 clear h hl hb hp
 go_enter Tryz.func68,Tryz.ntmps68
 go_wp2_with fail
 refine(zq CP).mono ?_
 rintro e w1 ⟨rfl,hr⟩
 have HR:=zk hr
 clear CP hr
 go_wp2_with fail
 refine bodyPost_end (results_none rfl _ _ _) rfl ?_
 exact⟨rfl,zq HR⟩
theorem QuV.kept {w w':World} {b base:Nat} {x0 x1 v x3 x4:Value} {l:List Int} (h:QuV w b base x0 x1 v x3 x4 l) (kb:w'.heap[b]? =w.heap[b]?) (kv:∀g,v.ownBlock=some g→w'.heap[g]? =w.heap[g]?):QuV w' b base x0 x1 v x3 x4 l:=
 ⟨kb.trans h.bk,ju h.own kv,h.ne⟩
theorem XV {w:World} {base n:Nat} {v:Value} {xs:List Value} (own:w.ownsRow base 3 1 v n xs) (hb:base≤w.heap.size) {g:Nat} {x:Int} (hx:w.heap[g]? =some (.cells #[.int .i64 x] 3)) (hs:n≤1000000):
  ∃v' w',(Builtin.append_ #[26,26] 26 #[v,.slice (some ⟨g,0,none⟩) 1 1]).run Tryz.prog w= .ok v' w'∧w'.ownsRow base 3 1 v' (n+1) (xs++[.int .i64 x])∧w.grownBy w' v.ownBlock∧(v'.ownBlock=v.ownBlock∨v'.ownBlock=some w.heap.size):=by
 obtain⟨ti,hi0,hz0,hz1,hz2⟩:=infoT intT_info
 obtain⟨g',cap,w',hr,h2,h3,h4,h5⟩:=run_append_lies (P:=Tryz.prog) w 26 26 base 3 ti _ 1 8 Tryz.underlying26 hi0 hz0 hz1 hz2 rfl (by omega) v n xs own ⟨g,0,none⟩ 1 1 [.int .i64 x] rfl (new_int w x hx) (by simp[Value.oneCell']) (by omega) (by unfold maxLen;omega) (by omega) hb _ rfl
 refine⟨_,w',hr,h2,h3,?_⟩
 rcases h4 with h4|h4
 ·exact .inl h4.symm
 ·exact .inr (by rw[h4];rfl)
theorem app_runk {P:Program} {w:World} {ops:Array Oper} {rest:List Oper} {o:Oper} {a:Act} {Q:Exit→Act→World→Prop} (hgd:o.guard=none) (s x:Operand) (t ty:TypeId)
  (ho:o.op= .call {callee:= .builtin .append,args:= #[s,x],argTypes:= #[t,t]}) (hty:o.type=ty) (v1 v2:Value) (hs:a.eval s=v1) (hx:a.eval x=v2) {v':Value} {w':World}
  (hr:(Builtin.append_ #[t,t] ty #[v1,v2]).run P w= .ok v' w') (h:wpList P ops Q rest (a.put o.dst v') w'):wpList P ops Q (o::rest) a w:=by
 refine wpList_plain hgd fun K hK=> ?_
 subst hty
 unfold Oper.wp
 simp[execOp,ho,resolve,invoke,builtin,hs,hx,hr,Result.andThen]
 exact hK _ _ h
def Ns (w:World) (v:Value) (l:List Int):Prop:=∃a c,v= .slice a l.length c∧l.length≤c∧c≤maxLen∧∀j x,l[j]? =some x→∃g off,a=some ⟨g,off,none⟩∧g<w.heap.size∧w.cell? ⟨g,off+j,none⟩=some (.int .i64 x)
theorem Ns.of_own {w:World} {base:Nat} {v:Value} {l:List Int} (h:w.ownsRow base 3 1 v l.length (l.map (Value.int .i64))):Ns w v l:=by
 rcases id h.2 with ⟨rfl,h0⟩|⟨g,cap,cur,rfl,hb,hg,hn,hm,hsz,ht⟩
 ·refine⟨none,0,by rw[h0],by omega,Nat.zero_le _,fun j b hj=> ?_⟩
  have:=(List.getElem?_eq_some_iff.1 hj).1;omega
 ·refine⟨_,cap,rfl,hn,hm,fun j b hj=>⟨g,0,rfl,(Array.getElem?_eq_some_iff.1 hg).1,?_⟩⟩
  have hj':=(List.getElem?_eq_some_iff.1 hj).1
  rw[Nat.zero_add,World.ownsRow.cellAt h j (by omega),List.getElem?_map,hj];rfl
def EachC (E:World→Nat→Prop) (F1 F2:Nat) (r1 r2:Value) (l:List Int):Prop:=
 ∀(W:World) (k:Nat) (x:Int),l[k]? =some x→E W k→
  Calls Tryz.prog F1 #[r1,.int .i64 x] W fun e w1=>∃r,e= .returned (.bool r)∧(r=false→E w1 (k+1))∧
   (r=true→Calls Tryz.prog F2 #[r2,.int .i64 x] w1 fun e w2=>e= .returned (.tuple #[])∧E w2 (k+1))
theorem each_l (E:World→Nat→Prop) (F1 F2:Nat) (H1:∀args W,(callFunc F1 args).run Tryz.prog W= .ok (.enter F1 args) W) (H2:∀args W,(callFunc F2 args).run Tryz.prog W= .ok (.enter F2 args) W)
  (r1 r2 v:Value) (l:List Int) (w:World) (hl:l.length≤1000000) (hN:∀W k,E W k→Ns W v l) (hE:EachC E F1 F2 r1 r2 l) (h0:E w 0):
  Calls Tryz.prog 115 #[v,.func (.func F1) #[r1] #[],.func (.func F2) #[r2] #[]] w fun e w'=>e= .returned (.tuple #[])∧E w' l.length:=by
 obtain⟨a,c,rfl,hc1,hc2,-⟩:=hN _ _ h0
 unfold maxLen at hc2
 have HN:=zk hN
 have HE:=zk hE
 have H0:=zk h0
 clear hN hE h0
 go_enter Tryz.func115,Tryz.ntmps115
 go_wp2_with fail
 go_loopw [10] (fun i wr=>∃(k:Nat),k≤l.length∧i= .int .i64 (k:Int)∧Hid (E wr k)) (fun i _=>l.length-(intOf i).toNat)
 case atStart=>exact⟨0,Nat.zero_le _,rfl,H0⟩
 case round=>
  clear H0
  obtain⟨k,hk,rfl,hE⟩:=hrel
  by_cases hlt:k<l.length
  ·obtain⟨x,hx⟩:∃x,l[k]? =some x:=⟨l[k],by simp[hlt]⟩
   obtain⟨a',c',e',-,-,h3⟩:=zq HN _ _ (zq hE)
   injection e' with e1 e2 e3
   subst e1;subst e3
   obtain⟨g,off,rfl,hg,q0⟩:=h3 k x hx
   have CE:=zk (zq HE wr k x hx (zq hE))
   clear h3 e2 hx hE
   go_wp2_with fail
   refine(zq CE).mono ?_
   rintro e w1 ⟨r,rfl,hf,ht⟩
   clear CE
   cases r with
   |false=>
    have HF:=zk (hf rfl)
    clear hf ht
    go_wp2_with fail
    exact⟨⟨k+1,by omega,by simp,HF⟩,by simp[intOf];omega⟩
   |true=>
    have HT:=zk (ht rfl)
    clear hf ht
    go_wp2_with fail
    refine(zq HT).mono ?_
    rintro e w2 ⟨rfl,hE2⟩
    have HE2:=zk hE2
    clear HT hE2
    go_wp2_with fail
    exact⟨⟨k+1,by omega,by simp,HE2⟩,by simp[intOf];omega⟩
  ·obtain rfl:k=l.length:=by omega
   go_wp2_with fail
   refine bodyPost_end (results_none rfl _ _ _) rfl ?_
   exact⟨rfl,zq hE⟩
theorem enterK {f:FuncId} {fn:Func} {c:Code} (hf:Tryz.prog.funcs[f]? =some fn) (hname:(fn.name== "runtime.NumGoroutine")=false) (hb:fn.body=some c) (args:Array Value) (w:World):(callFunc f args).run Tryz.prog w= .ok (.enter f args) w:=by
 have h1:fn.name≠ "runtime.NumGoroutine" :=by simpa using hname
 simp[callFunc,hf,h1,hb]
theorem XZ {w:World} {base z n:Nat} {t:TypeId} {v:Value} {xs:List Value} (h:w.ownsRow base t z v n xs) {g:Nat} (hg:v.ownBlock=some g):base≤g∧g<w.heap.size:=by
 rcases h.2 with ⟨rfl,-⟩|⟨g',cap,cur,rfl,hb,hk,-⟩
 ·cases hg
 ·cases hg;exact⟨hb,(Array.getElem?_eq_some_iff.1 hk).1⟩
theorem own_lat {w w':World} {base z n:Nat} {t:TypeId} {v:Value} {xs:List Value} (k:Below w.heap.size w w') (h:w.ownsRow base t z v n xs):w'.ownsRow base t z v n xs:=
 ju h (fun g hg=>k.block g (XZ h hg).2)
theorem own_low {w:World} {base b2 z n:Nat} {t:TypeId} {v:Value} {xs:List Value} (h:w.ownsRow base t z v n xs) (hb:b2≤base):w.ownsRow b2 t z v n xs:=by
 refine⟨h.1,?_⟩
 rcases h.2 with h|⟨g,cap,cur,e,hk,r⟩
 ·exact .inl h
 ·exact .inr ⟨g,cap,cur,e,Nat.le_trans hb hk,r⟩
theorem qs_below {w w1 w2:World} {B b:Nat} {v:Value} (h:Below B w w1) (k:Qs b v w1 w2) (hb:B≤b) (hs:B≤w1.heap.size) (hv:∀g,v.ownBlock=some g→B≤g):Below B w w2:=by
 refine⟨k.os.trans h.os,k.tape.trans h.tape,k.output.trans h.output,Nat.le_trans h.size k.size,fun i hi=> ?_⟩
 exact(k.block i (by omega) (by omega) (fun e=>by have:=hv i e.symm;omega)).trans (h.block i hi)
theorem own_form3 {w:World} {base z n:Nat} {t:TypeId} {v:Value} {xs:List Value} (h:w.ownsRow base t z v n xs):∃a n c,v= .slice a n c:=by
 rcases h.2 with ⟨rfl,-⟩|⟨g,cap,cur,rfl,-⟩
 ·exact⟨_,_,_,rfl⟩
 ·exact⟨_,_,_,rfl⟩
def BR (w:World) (base g n c:Nat) (l:List Bool):Prop:=w.ownsRow base 4 1 (.slice (some ⟨g,0,none⟩) n c) n (l.map Value.bool)
theorem BR.len {w:World} {base g n c:Nat} {l:List Bool} (h:BR w base g n c l):l.length=n:=by have:=h.1;simpa using this
theorem BR.set {w:World} {base g n c:Nat} {l:List Bool} (h:BR w base g n c l) (i:Nat) (x:Bool):BR (w.setCell ⟨g,i,none⟩ (.bool x)) base g n c (l.set i x):=by
 refine⟨by simpa using h.1,?_⟩
 rcases h.2 with ⟨e,-⟩|⟨g',cap,cur,e,hb,hc,hn,hm,hs,ht⟩
 ·cases e
 ·cases e
  have:=heap_setCell_same w g i _ _ (.bool x) hc
  refine .inr ⟨g,c,cur.setIfInBounds i (.bool x),rfl,hb,this,hn,hm,by simp[hs],?_⟩
  rw[List.map_set,←ht]
  simp[List.take_set]
theorem BR.at {w:World} {base g n c:Nat} {l:List Bool} (h:BR w base g n c l) {i:Nat} (hi:i<n):w.cell? ⟨g,i,none⟩=some (.bool (l.getD i false)):=by
 have hl:=h.len
 rw[World.ownsRow.cellAt h i (by omega),List.getElem?_map,List.getD_eq_getElem?_getD,List.getElem?_eq_getElem (by omega)];rfl
theorem BR.fz {w:World} {base g n c:Nat} {l:List Bool} (h:BR w base g n c l) (i:Nat):w.frozen? ⟨g,i,none⟩=false:=by
 rcases h.2 with ⟨e,-⟩|⟨g',cap,cur,e,hb,hc,-⟩
 ·cases e
 ·cases e
  simp[World.frozen?,hc]
theorem BR.kept {w w':World} {base g n c:Nat} {l:List Bool} (h:BR w base g n c l) (k:w'.heap[g]? =w.heap[g]?):BR w' base g n c l:=
 ju h (fun g' e=>by have:=Option.some.inj e;subst this;exact k)
theorem isNew_l (b gw n c x base:Nat) (L:List Bool) (x0 x1 x2 x3:Value) (w:World) (hb:w.heap[b]? =some (.cells #[x0,x1,x2,x3,.slice (some ⟨gw,0,none⟩) n c] 68)) (hx:x<n) (hn:n≤1000000) (hbg:b≠gw)
  (hq:BR w base gw n c L):
  Calls Tryz.prog 166 #[.pointer (some ⟨b,0,none⟩),.int .i64 x] w fun e w'=>e= .returned (.bool (!(L.getD x false)))∧w'=w.setCell ⟨gw,x,none⟩ (.bool true):=by
 obtain⟨-,-,-,-,c4,-⟩:=Xi hb
 have hc:=hq.at hx
 have hz:=hq.fz x
 generalize L.getD x false=y at*
 clear hq hb
 go_enter Tryz.func166,Tryz.ntmps166
 go_wp2_with fail
 go_ret
 exact⟨rfl,rfl⟩
def NsB (B:Nat) (w:World) (v:Value) (l:List Int):Prop:=∃a c,v= .slice a l.length c∧l.length≤c∧c≤maxLen∧∀j x,l[j]? =some x→∃g off,a=some ⟨g,off,none⟩∧g<B∧w.cell? ⟨g,off+j,none⟩=some (.int .i64 x)
theorem NsB.later {B:Nat} {w w':World} {v:Value} {l:List Int} (h:NsB B w v l) (k:Below B w w'):NsB B w' v l:=by
 obtain⟨a,c,e,h1,h2,h3⟩:=h
 refine⟨a,c,e,h1,h2,fun j x hj=> ?_⟩
 obtain⟨g,off,e,hg,q⟩:=h3 j x hj
 exact⟨g,off,e,hg,by rw[World.cell?_of_block (k.block g hg)];exact q⟩
theorem NsB.ns {B:Nat} {w:World} {v:Value} {l:List Int} (h:NsB B w v l) (hB:B≤w.heap.size):Ns w v l:=by
 obtain⟨a,c,e,h1,h2,h3⟩:=h
 refine⟨a,c,e,h1,h2,fun j x hj=> ?_⟩
 obtain⟨g,off,e,hg,q⟩:=h3 j x hj
 exact⟨g,off,e,by omega,q⟩
def KvB (B:Nat) (w:World) (v:Value) (L:List (List Int)):Prop:=∃a c,v= .slice a L.length c∧L.length≤c∧c≤maxLen∧∀j l,L[j]? =some l→∃g off u,a=some ⟨g,off,none⟩∧g<B∧w.cell? ⟨g,off+j,none⟩=some u∧NsB B w u l
structure Sp (S0:List Bool) (l0:List Int) (S:List Bool) (l:List Int) (ys:List Int):Prop where
 len:S.length=S0.length
 seen:∀x:Nat,S.getD x false=(S0.getD x false||decide ((x:Int)∈ys))
 add:∃add,l.Perm (l0++add)∧add.Nodup∧add.length≤ys.length∧∀x,x∈add↔x∈ys∧S0.getD x.toNat false=false
theorem Sp.nil (S0:List Bool) (l0:List Int):Sp S0 l0 S0 l0 []:=
 ⟨rfl,fun x=>by simp,[],by simp,List.nodup_nil,Nat.le_refl _,fun x=>by simp⟩
theorem Sp.size {S0 S:List Bool} {l0 l ys:List Int} (h:Sp S0 l0 S l ys):l.length≤l0.length+ys.length:=by
 obtain⟨add,hp,-,hl,-⟩:=h.add
 have:=hp.length_eq
 rw[List.length_append]at this;omega
theorem Sp.old {S0 S:List Bool} {l0 l ys:List Int} (h:Sp S0 l0 S l ys) {y:Nat} (hy:S.getD y false=true):Sp S0 l0 S l (ys++[(y:Int)]):=by
 obtain⟨add,hp,hd,hl,hm⟩:=h.add
 have hs:=h.seen y
 rw[hy]at hs
 refine⟨h.len,fun x=> ?_,add,hp,hd,by simp;omega,fun x=> ?_⟩
 ·rw[h.seen x]
  by_cases hx:x=y
  ·subst hx
   have:S0.getD x false=true∨((x:Int)∈ys):=by simpa using hs.symm
   rcases this with k|k
   ·rw[k];simp
   ·simp[k]
  ·have:((x:Int)=(y:Int))↔False:=⟨fun e=>hx (by omega),fun e=>e.elim⟩
   simp[this]
 ·rw[hm x]
  constructor
  ·rintro⟨h1,h2⟩;exact⟨List.mem_append_left _ h1,h2⟩
  ·rintro⟨h1,h2⟩
   refine⟨?_,h2⟩
   rcases List.mem_append.1 h1 with h1|h1
   ·exact h1
   ·simp at h1;subst h1
    have:S0.getD y false=true∨((y:Int)∈ys):=by simpa using hs.symm
    rcases this with k|k
    ·rw[show((y:Int)).toNat=y from rfl,k]at h2;cases h2
    ·exact k
theorem Sp.new {S0 S:List Bool} {l0 l l' ys:List Int} (h:Sp S0 l0 S l ys) {y:Nat} (hy:S.getD y false=false) (hlt:y<S0.length) (hp':l'.Perm ((y:Int)::l)):Sp S0 l0 (S.set y true) l' (ys++[(y:Int)]):=by
 obtain⟨add,hp,hd,hl,hm⟩:=h.add
 have hs:=h.seen y
 rw[hy]at hs
 have hs0:S0.getD y false=false∧¬((y:Int)∈ys):=by simpa using hs.symm
 have hlen:=h.len
 refine⟨by simp[hlen],fun x=> ?_,add++[(y:Int)],?_,?_,by simp;omega,fun x=> ?_⟩
 ·have e:(S.set y true).getD x false=if x=y then true else S.getD x false:=by
   simp only[List.getD_eq_getElem?_getD,List.getElem?_set]
   by_cases hx:y=x
   ·subst hx;simp[hlen,hlt]
   ·rw[if_neg hx,if_neg (fun e=>hx e.symm)]
  rw[e,h.seen x]
  by_cases hx:x=y
  ·subst hx;simp
  ·have:((x:Int)=(y:Int))↔False:=⟨fun e=>hx (by omega),fun e=>e.elim⟩
   simp[hx,this]
 ·refine hp'.trans ?_
  rw[←List.append_assoc]
  exact(List.Perm.cons _ hp).trans (List.perm_append_singleton _ _).symm
 ·rw[List.nodup_append]
  refine⟨hd,by simp,fun a ha c hc e=> ?_⟩
  simp at hc;subst hc;subst e
  exact hs0.2 ((hm _).1 ha).1
 ·rw[List.mem_append,hm x]
  constructor
  ·rintro(⟨h1,h2⟩|h1)
   ·exact⟨List.mem_append_left _ h1,h2⟩
   ·simp at h1;subst h1
    exact⟨by simp,by simpa using hs0.1⟩
  ·rintro⟨h1,h2⟩
   rcases List.mem_append.1 h1 with h1|h1
   ·exact .inl ⟨h1,h2⟩
   ·exact .inr h1
def SpW (b B gs n c:Nat) (x0 x1 x3 v0:Value) (S0:List Bool) (l0:List Int) (w:World) (W:World) (ys:List Int):Prop:=
 ∃v l S,QuV W b B x0 x1 v x3 (.slice (some ⟨gs,0,none⟩) n c) l∧Hp l∧BR W B gs n c S∧v.ownBlock≠some gs∧Sp S0 l0 S l ys∧Below B w W∧Nxt w v0 v∧
  ∀k,k<w.heap.size→k≠b→k≠gs→some k≠v0.ownBlock→W.heap[k]? =w.heap[k]?
theorem spread_step (b B gs n c:Nat) (x0 x1 x3 v0:Value) (S0:List Bool) (l0 ys:List Int) (w:World) (hbg:b≠gs) (hBb:B≤b) (hBg:B≤gs) (hlen:l0.length+ys.length≤999999) (hn:n≤1000000) (hS0:S0.length=n) (hv0:∀g,v0.ownBlock=some g→g<w.heap.size)
  (hy:∀y∈ys,∃m:Nat,y=(m:Int)∧m<n) (hgw:gs<w.heap.size) (hbw:b<w.heap.size):EachC (fun W k=>SpW b B gs n c x0 x1 x3 v0 S0 l0 w W (ys.take k)) 166 68 (.pointer (some ⟨b,0,none⟩)) (.pointer (some ⟨b,2,none⟩)) ys:=by
 intro W k y hk ⟨v,l,S,hq,hp,hS,hne,hsp,hb,hx,far⟩
 obtain⟨m,rfl,hm⟩:=hy y (List.mem_of_getElem? hk)
 have hBW:B≤W.heap.size:=Nat.le_trans hBb (Nat.le_of_lt hq.lt)
 have hk1:ys.take (k+1)=ys.take k++[(m:Int)]:=by rw[List.take_add_one,hk];rfl
 have hsl:=hS.len
 refine(isNew_l b gs n c m B S x0 x1 v x3 W hq.bk hm hn hbg hS).mono ?_
 rintro e w1 ⟨rfl,hw⟩
 have keep:∀k,k≠gs→w1.heap[k]? =W.heap[k]? :=fun k hk=>by rw[hw];exact heap_setCell_other W ⟨gs,m,none⟩ k _ (by simpa using hk)
 have hS1:BR w1 B gs n c (S.set m true):=by rw[hw];exact hS.set m true
 have hsz:w1.heap.size=W.heap.size:=by rw[hw];simp
 have hq1:QuV w1 b B x0 x1 v x3 (.slice (some ⟨gs,0,none⟩) n c) l:=hq.kept (keep b hbg) (fun g hg=>keep g (fun e=>hne (by rw[hg,e])))
 have hb1:Below B w w1:=hb.trans (by rw[hw];exact⟨rfl,rfl,rfl,by simp,fun k hk=>heap_setCell_other W ⟨gs,m,none⟩ k _ (by simp;omega)⟩)
 have far1:∀k,k<w.heap.size→k≠b→k≠gs→some k≠v0.ownBlock→w1.heap[k]? =w.heap[k]? :=fun k h1 h2 h3 h4=>(keep k h3).trans (far k h1 h2 h3 h4)
 have hsz0:=hb.size
 clear hw
 refine⟨_,rfl,fun hr=> ?_,fun hr=> ?_⟩
 ·have hs:S.getD m false=true:=by simpa using hr
  have e:S.set m true=S:=by
   apply List.ext_getElem?
   intro i
   rw[List.getElem?_set]
   by_cases hi:m=i
   ·subst hi
    rw[if_pos rfl,if_pos (by omega)]
    rw[List.getD_eq_getElem?_getD,List.getElem?_eq_getElem (by omega)]at hs
    rw[List.getElem?_eq_getElem (by omega)]
    simpa using hs.symm
   ·rw[if_neg hi]
  rw[e]at hS1
  exact⟨v,l,S,hq1,hp,hS1,hne,by rw[hk1];exact hsp.old hs,hb1,hx,far1⟩
 ·have hs:S.getD m false=false:=by simpa using hr
  have hl:=hsp.size
  rw[List.length_take]at hl
  refine(put_l b B x0 x1 v x3 (.slice (some ⟨gs,0,none⟩) n c) l m w1 hq1 (by omega) (by omega) hp).mono ?_
  rintro e w2 ⟨rfl,v',l',hp',hh',hq',hQ,hx'⟩
  have hgs2:w2.heap[gs]? =w1.heap[gs]? :=hQ.block gs (by omega) (fun e=>hbg e.symm) (fun e=>hne e.symm)
  refine⟨rfl,v',l',S.set m true,hq',hh',hS1.kept hgs2,?_,by rw[hk1];exact hsp.new hs (by omega) hp',?_,hx.then (w1:=w1) hx' (by omega),?_⟩
  ·rcases hx' with h|⟨g,h,hg⟩
   ·rw[h];exact hne
   ·rw[h];intro e;have:=Option.some.inj e;omega
  ·exact qs_below hb1 hQ hBb (by omega) (fun g hg=>(XZ hq.own hg).1)
  ·intro k h1 h2 h3 h4
   refine(hQ.block k (by omega) h2 (fun e=> ?_)).trans (far1 k h1 h2 h3 h4)
   rcases hx with h|⟨g,h,hg⟩
   ·rw[h]at e;exact h4 e
   ·rw[h]at e;have:=Option.some.inj e;omega
theorem spread_l (b B gs n c q:Nat) (x0 x1 x3 v0:Value) (S0:List Bool) (l0 ys:List Int) (L:List (List Int)) (w:World) (hq:QuV w b B x0 x1 v0 x3 (.slice (some ⟨gs,0,none⟩) n c) l0) (hp:Hp l0) (hS:BR w B gs n c S0) (hne:v0.ownBlock≠some gs)
  (hL:KvB B w x0 L) (hys:L[q]? =some ys) (hbg:b≠gs) (hBb:B≤b) (hlen:l0.length+ys.length≤999999) (hn:n≤1000000) (hy:∀y∈ys,∃m:Nat,y=(m:Int)∧m<n):
  Calls Tryz.prog 121 #[.pointer (some ⟨b,0,none⟩),.int .i64 (q:Int)] w fun e w'=>e= .returned (.tuple #[])∧SpW b B gs n c x0 x1 x3 v0 S0 l0 w w' ys:=by
 have hbw:=hq.lt
 have hgi:=XZ hS (rfl:(Value.slice (some ⟨gs,0,none⟩) n c).ownBlock=some gs)
 have ST:=zk (spread_step b B gs n c x0 x1 x3 v0 S0 l0 ys w hbg hBb hgi.1 hlen hn hS.len (fun g hg=>(XZ hq.own hg).2) hy hgi.2 hbw)
 have HE1:∀args W,(callFunc 166 args).run Tryz.prog W= .ok (.enter 166 args) W:=enterK Tryz.func166 (by kernel_rfl) rfl
 have HE2:∀args W,(callFunc 68 args).run Tryz.prog W= .ok (.enter 68 args) W:=enterK Tryz.func68 (by kernel_rfl) rfl
 obtain⟨c0,-,-,-,-,-⟩:=Xi hq.bk
 obtain⟨a,cL,rfl,hL1,hL2,h3⟩:=id hL
 obtain⟨g,off,u,rfl,hg,qu,hu⟩:=h3 q ys hys
 have hqL:q<L.length:=(List.getElem?_eq_some_iff.1 hys).1
 unfold maxLen at hL2
 have HU:=zk hu
 have W0:=zk (show SpW b B gs n c _ x1 x3 v0 S0 l0 w w.drew [] from⟨v0,l0,S0,⟨hq.bk,hq.own,hq.ne⟩,hp,hS,hne,Sp.nil _ _,(Below.refl _ _).drew,Nxt.refl _ _,fun _ _ _ _ _=>rfl⟩)
 have CE:=zk (each_l (fun W k=>SpW b B gs n c _ x1 x3 v0 S0 l0 w W (ys.take k)) 166 68 HE1 HE2 (.pointer (some ⟨b,0,none⟩)) (.pointer (some ⟨b,2,none⟩)) u ys w.drew (by omega) (fun W k hE=>by
  obtain⟨v,l,S,hq',-,-,-,-,hb',-,-⟩:=hE
  exact(hu.later hb').ns (Nat.le_trans hBb (Nat.le_of_lt hq'.lt))) (zq ST) (zq W0))
 rw[List.take_length]at CE
 clear ST W0 hu HU hL h3 hys hy hq hp hS hne HE1 HE2
 go_enter Tryz.func121,Tryz.ntmps121
 refine wp_region_held_drew (S:=(fun w'=>w'.cell? ⟨b,0,none⟩=some (.slice (some ⟨g,off,none⟩) L.length cL)∧w'.cell? ⟨g,off+q,none⟩=some u)) (by kernel_rfl) ⟨c0,qu⟩ (fun hHeld=> ?_)
 refine tkh 0 ?_ rfl (by kernel_rfl) (fun _ _ _ h=>h) ?_ (by assumption) ?_
 rotate_left
 ·intro w hSw;obtain⟨y0,y1⟩:=hSw;go_simp;(try with_reducible rfl)
 refine tkh 1 ?_ rfl (by kernel_rfl) (fun _ _ _ h=>h) ?_ (by assumption) ?_
 rotate_left
 ·intro w hSw;obtain⟨y0,y1⟩:=hSw;go_simp;(try with_reducible rfl)
 refine tkh 2 ?_ rfl (by kernel_rfl) (fun _ _ _ h=>h) ?_ (by assumption) ?_
 rotate_left
 ·intro w hSw;obtain⟨y0,y1⟩:=hSw;go_simp;(try with_reducible rfl)
 refine tkh 3 ?_ rfl (by kernel_rfl) (fun _ _ _ h=>h) ?_ (by assumption) ?_
 rotate_left
 ·intro w hSw;obtain⟨y0,y1⟩:=hSw;go_simp;(try with_reducible rfl)
 refine tkh 4 ?_ rfl (by kernel_rfl) (fun _ _ _ h=>h) ?_ (by assumption) ?_
 rotate_left
 ·intro w hSw;obtain⟨y0,y1⟩:=hSw;go_simp;(try with_reducible rfl)
 refine tkh 5 ?_ rfl (by kernel_rfl) (fun _ _ _ h=>h) ?_ (by assumption) ?_
 rotate_left
 ·intro w hSw;obtain⟨y0,y1⟩:=hSw;go_simp;(try with_reducible rfl)
 refine tkh 6 ?_ rfl (by kernel_rfl) (fun _ _ _ h=>h) ?_ (by assumption) ?_
 rotate_left
 ·intro w hSw;obtain⟨y0,y1⟩:=hSw;go_simp;(try with_reducible rfl)
 refine tkh 7 ?_ rfl (by kernel_rfl) (fun _ _ _ h=>h) ?_ (by assumption) ?_
 rotate_left
 ·intro w hSw;obtain⟨y0,y1⟩:=hSw;go_simp;(try with_reducible rfl)
 refine tkh 8 ?_ rfl (by kernel_rfl) (fun _ _ _ h=>h) ?_ (by assumption) ?_
 rotate_left
 ·intro w hSw;obtain⟨y0,y1⟩:=hSw;go_simp;(try with_reducible rfl)
 refine tkh 9 ?_ rfl (by kernel_rfl) (fun _ _ _ h=>h) ?_ (by assumption) ?_
 rotate_left
 ·intro w hSw;obtain⟨y0,y1⟩:=hSw;go_simp;(try with_reducible rfl)
 refine tkh 10 ?_ rfl (by kernel_rfl) (fun _ _ _ h=>h) ?_ (by assumption) ?_
 rotate_left
 ·intro w hSw;obtain⟨y0,y1⟩:=hSw;go_simp;(try with_reducible rfl)
 refine tkh 11 ?_ rfl (by kernel_rfl) (fun _ _ _ h=>h) ?_ (by assumption) ?_
 rotate_left
 ·intro w hSw;obtain⟨y0,y1⟩:=hSw;go_simp;(try with_reducible rfl)
 refine tkh 12 ?_ rfl (by kernel_rfl) (fun _ _ _ h=>h) ?_ (by assumption) ?_
 rotate_left
 ·intro w hSw;obtain⟨y0,y1⟩:=hSw;go_simp;(try with_reducible rfl)
 refine tkh 13 ?_ rfl (by kernel_rfl) (fun _ _ _ h=>h) ?_ (by assumption) ?_
 rotate_left
 ·intro w hSw;obtain⟨y0,y1⟩:=hSw;go_simp;(try with_reducible rfl)
 refine wpAnyH_ready (rs:=[14]) (by kernel_rfl) (by simp) ?_
 refine AllReadyH.cons rfl (fun K hK=> ?_) AllReadyH.nil
 go_simp
 refine(zq CE).mono ?_
 rintro e w1 ⟨rfl,HW⟩
 go_simp
 have hc1:w1.cell? ⟨b,0,none⟩=some (.slice (some ⟨g,off,none⟩) L.length cL)∧w1.cell? ⟨g,off+q,none⟩=some u:=by
  obtain⟨v,l,S,hq',-,-,-,-,hb',-,-⟩:=id HW
  obtain⟨c0',-⟩:=Xi hq'.bk
  exact⟨c0',by rw[World.cell?_of_block (hb'.block g hg)];exact qu⟩
 refine hK.out _ _ hc1 (fun hHeld=> ?_)
 clear hK K
 refine wpAnyH_done (by kernel_rfl) ?_ _
 refine bodyPost_end (results_none rfl _ _ _) rfl ?_
 exact⟨rfl,HW⟩
theorem XX {W:World} {g:Nat} {x0 x1:Value} {t:TypeId} (h:W.heap[g]? =some (.cells #[x0,x1] t)):
  W.cell? ⟨g,0,none⟩=some x0∧W.cell? ⟨g,1,none⟩=some x1:=by
 refine⟨?_,?_⟩<;>simp[World.cell?,h]
theorem made_boolk (n:Nat):(madeCells #[.bool false] (n*1)).toList=(List.replicate n false).map Value.bool:=by
 apply List.ext_getElem?
 intro j
 rw[Nat.mul_one,List.map_replicate]
 by_cases hj:j<n
 ·simp[madeCells,hj,Nat.mod_one]
 ·simp[madeCells,hj]
theorem boolT_info:(Tryz.prog.info? 4).map (fun i=>(i.zero,i.size,i.bytes))=some (some (.bool false),1,1):=by kernel_rfl
theorem mk_bool (B n:Nat) (W:World) (hn:n≤900000) (hB:B≤W.heap.size):∃w1,(Instr.makeSlice 35 (.int .i64 (n:Int)) (.int .i64 (n:Int))).run Tryz.prog W= .ok (.slice (some ⟨W.heap.size,0,none⟩) n n) w1∧BR w1 B W.heap.size n n (List.replicate n false)∧W.grownBy w1 none:=by
 obtain⟨ti,hi0,hz0,hz1,hzb⟩:=infoT boolT_info
 obtain⟨w1,hr,h1,h2⟩:=run_make_full (P:=Tryz.prog) (w:=W) B 35 4 ti _ 1 Tryz.underlying35 hi0 hz0 hz1 .i64 .i64 n (by rw[hzb];omega) (by unfold maxLen;omega) hB
 refine⟨w1,hr,?_,h2⟩
 rw[show(Value.bool false).cells= #[.bool false] from rfl,made_boolk]at h1
 exact h1
end Go.Proofs.YtcblkmlcbedomaaGreatDoor.K

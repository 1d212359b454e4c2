/- Parts of the proof that stand ahead of it (K 6). -/
import Derived.Test.YtcblkmlcbedomaaGreatDoorKM5
set_option linter.unusedVariables false
set_option linter.unusedSimpArgs false
set_option maxRecDepth 20000
set_option maxHeartbeats 16000000
namespace Go.Proofs.YtcblkmlcbedomaaGreatDoor.K
open Go.RowKit
theorem made_intk (n:Nat):(madeCells #[.int .i64 0] (n*1)).toList=(List.replicate n (0:Int)).map (Value.int .i64):=by
 apply List.ext_getElem?
 intro j
 rw[Nat.mul_one,List.map_replicate]
 by_cases hj:j<n
 ·simp[madeCells,hj,Nat.mod_one]
 ·simp[madeCells,hj]
theorem mk_int (B n:Nat) (W:World) (hn:n≤900000) (hB:B≤W.heap.size):∃w1,(Instr.makeSlice 26 (.int .i64 (n:Int)) (.int .i64 (n:Int))).run Tryz.prog W= .ok (.slice (some ⟨W.heap.size,0,none⟩) n n) w1∧QR w1 B W.heap.size n n (List.replicate n 0)∧W.grownBy w1 none:=by
 obtain⟨ti,hi0,hz0,hz1,hzb⟩:=infoT intT_info
 obtain⟨w1,hr,h1,h2⟩:=run_make_full (P:=Tryz.prog) (w:=W) B 26 3 ti _ 1 Tryz.underlying26 hi0 hz0 hz1 .i64 .i64 n (by rw[hzb];omega) (by unfold maxLen;omega) hB
 refine⟨w1,hr,?_,h2⟩
 rw[show(Value.int .i64 0).cells= #[.int .i64 0] from rfl,made_intk]at h1
 exact h1
theorem QR.kept {w w':World} {base g n c:Nat} {l:List Int} (h:QR w base g n c l) (k:w'.heap[g]? =w.heap[g]?):QR w' base g n c l:=
 ju h (fun g' e=>by have:=Option.some.inj e;subst this;exact k)
structure OrS (L:List (List Int)) (n k:Nat) (S l:List Int):Prop where
 len:S.length=n
 wt:∀m,m<k→S.getD m 0=((L.getD m []).length:Nat)
 nd:l.Nodup
 mem:∀x,x∈l↔∃m:Nat,x=(m:Int)∧m<k∧(L.getD m []).length=0
 kn:k≤n
theorem OrS.small {L:List (List Int)} {n k:Nat} {S l:List Int} (h:OrS L n k S l):l.length≤n:=
 nd_len n l h.nd (fun y hy=>by obtain⟨m,e,h1,-⟩:=(h.mem y).1 hy;exact⟨m,e,Nat.lt_of_lt_of_le h1 h.kn⟩)
theorem OrS.zero (L:List (List Int)) (n:Nat):OrS L n 0 (List.replicate n 0) []:=
 ⟨by simp,fun m hm=>absurd hm (Nat.not_lt_zero _),List.nodup_nil,fun x=>⟨fun h=>(by cases h),fun⟨m,_,h,_⟩=>absurd h (Nat.not_lt_zero _)⟩,Nat.zero_le _⟩
theorem OrS.set {L:List (List Int)} {n k:Nat} {S l:List Int} (h:OrS L n k S l) (hk:k<n):∀m,m<k+1→(S.set k ((L.getD k []).length:Nat)).getD m 0=((L.getD m []).length:Nat):=by
 intro m hm
 rw[set_getD m (by have:=h.len;omega)]
 by_cases e:m=k
 ·subst e;rw[if_pos rfl]
 ·rw[if_neg e,h.wt m (by omega)]
theorem OrS.no {L:List (List Int)} {n k:Nat} {S l:List Int} (h:OrS L n k S l) (hk:k<n) (h0:(L.getD k []).length≠0):OrS L n (k+1) (S.set k ((L.getD k []).length:Nat)) l:=by
 refine⟨by simp[h.len],h.set hk,h.nd,fun x=> ?_,hk⟩
 rw[h.mem x]
 constructor
 ·rintro⟨m,e,h1,h2⟩;exact⟨m,e,by omega,h2⟩
 ·rintro⟨m,e,h1,h2⟩
  refine⟨m,e,?_,h2⟩
  rcases Nat.lt_succ_iff_lt_or_eq.1 h1 with a|a
  ·exact a
  ·subst a;exact absurd h2 h0
theorem OrS.yes {L:List (List Int)} {n k:Nat} {S l l':List Int} (h:OrS L n k S l) (hk:k<n) (h0:(L.getD k []).length=0) (hp:l'.Perm ((k:Int)::l)):OrS L n (k+1) (S.set k ((L.getD k []).length:Nat)) l':=by
 have hno:(k:Int)∉l:=fun e=>by obtain⟨m,e,h1,-⟩:=(h.mem _).1 e;omega
 refine⟨by simp[h.len],h.set hk,hp.symm.nodup (List.nodup_cons.2 ⟨hno,h.nd⟩),fun x=> ?_,hk⟩
 rw[hp.mem_iff,List.mem_cons,h.mem x]
 constructor
 ·rintro(e|⟨m,e,h1,h2⟩)
  ·exact⟨k,e,Nat.lt_succ_self k,h0⟩
  ·exact⟨m,e,by omega,h2⟩
 ·rintro⟨m,e,h1,h2⟩
  rcases Nat.lt_succ_iff_lt_or_eq.1 h1 with a|a
  ·exact .inr ⟨m,e,a,h2⟩
  ·subst a;exact .inl e
theorem OrS.done {L:List (List Int)} {n:Nat} {S l:List Int} (h:OrS L n n S l):OrI L n S l []:=by
 have e:∀x:List Int,left x []=x.length:=fun x=>by unfold left;simp
 refine⟨by rw[List.nil_append];exact h.nd,fun y hy=> ?_,fun m hm=>by rw[e,h.wt m hm],fun m hm=> ?_,fun i m hi=>by simp at hi,fun i m hi=>by simp at hi⟩
 ·obtain⟨m,e,h1,-⟩:=(h.mem y).1 (by simpa using hy);exact⟨m,e,h1⟩
 ·rw[List.nil_append,e,h.mem]
  exact⟨fun⟨m',e,_,h2⟩=>by obtain rfl:m=m':=(by omega);exact h2,fun h2=>⟨m,rfl,hm,h2⟩⟩
def OrW (b B gs n:Nat) (x0 x1:Value) (L:List (List Int)) (X:World) (k:Nat) (W:World):Prop:=
 ∃v l S,QuV W b B x0 x1 v (.slice (some ⟨gs,0,none⟩) n n) (.slice none 0 0) l∧Hp l∧QR W B gs n n S∧v.ownBlock≠some gs∧OrS L n k S l∧Below B X W
theorem OrW.no {b B gs n k:Nat} {x0 x1 v:Value} {L:List (List Int)} {X W:World} {l S ys:List Int} (hq:Hid (QuV W b B x0 x1 v (.slice (some ⟨gs,0,none⟩) n n) (.slice none 0 0) l)) (hS:Hid (QR W B gs n n S)) (hb:Hid (Below B X W)) (hs:Hid (OrS L n k S l)) (hp:Hid (Hp l)) (hne:v.ownBlock≠some gs) (hy:Hid (L.getD k []=ys))
  (hk:Hid (∀u j,j≠gs→(W.setCell ⟨gs,k,none⟩ u).heap[j]? =W.heap[j]?)) (h0:ys.length≠0) (hlt:k<n) (D1:b≠gs):Hid (OrW b B gs n x0 x1 L X (k+1) (W.setCell ⟨gs,k,none⟩ (.int .i64 (ys.length:Nat)))):=by
 have hq:=zq hq
 have hS:=zq hS
 have hb:=zq hb
 have hk:=zq hk
 have hy:=zq hy
 have hB:B≤gs∧gs<W.heap.size:=Xj hS (rfl:(Value.slice (some ⟨gs,0,none⟩) n n).ownBlock=some gs)
 refine⟨v,l,S.set k (ys.length:Nat),hq.kept (hk _ b D1) (fun g hg=>hk _ g (fun e=>hne (by rw[hg,e]))),zq hp,(hS.set k _).1,hne,by rw[←hy];exact(zq hs).no hlt (by rw[hy];exact h0),hb.trans ⟨rfl,rfl,rfl,by simp,fun j hj=>hk _ j (by omega)⟩⟩
theorem OrW.yes {b B gs n k:Nat} {x0 x1 v v':Value} {L:List (List Int)} {X W W2:World} {l l' S ys:List Int} (hq:Hid (QuV W b B x0 x1 v (.slice (some ⟨gs,0,none⟩) n n) (.slice none 0 0) l)) (hS:Hid (QR W B gs n n S)) (hb:Hid (Below B X W)) (hs:Hid (OrS L n k S l)) (hne:v.ownBlock≠some gs) (hy:Hid (L.getD k []=ys))
  (hk:Hid (∀u j,j≠gs→(W.setCell ⟨gs,k,none⟩ u).heap[j]? =W.heap[j]?)) (h0:ys.length=0) (hlt:k<n) (D1:b≠gs) (hBb:B≤b) (hp':l'.Perm ((k:Int)::l)) (hh':Hp l') (hq':QuV W2 b B x0 x1 v' (.slice (some ⟨gs,0,none⟩) n n) (.slice none 0 0) l')
  (hQ:Qs b v (W.setCell ⟨gs,k,none⟩ (.int .i64 (ys.length:Nat))) W2) (hx':Nxt (W.setCell ⟨gs,k,none⟩ (.int .i64 (ys.length:Nat))) v v'):Hid (OrW b B gs n x0 x1 L X (k+1) W2):=by
 have hq:=zq hq
 have hS:=zq hS
 have hb:=zq hb
 have hk:=zq hk
 have hy:=zq hy
 have hB:B≤gs∧gs<W.heap.size:=Xj hS (rfl:(Value.slice (some ⟨gs,0,none⟩) n n).ownBlock=some gs)
 have hsz:(W.setCell ⟨gs,k,none⟩ (.int .i64 (ys.length:Nat))).heap.size=W.heap.size:=by simp
 have hb1:Below B X (W.setCell ⟨gs,k,none⟩ (.int .i64 (ys.length:Nat))):=hb.trans ⟨rfl,rfl,rfl,by simp,fun j hj=>hk _ j (by omega)⟩
 have hgs2:W2.heap[gs]? =(W.setCell ⟨gs,k,none⟩ (.int .i64 (ys.length:Nat))).heap[gs]? :=hQ.block gs (by omega) (fun e=>D1 e.symm) (fun e=>hne e.symm)
 refine⟨v',l',S.set k (ys.length:Nat),hq',hh',(hS.set k _).1.kept hgs2,?_,by rw[←hy];exact(zq hs).yes hlt (by rw[hy];exact h0) hp',qs_below hb1 hQ hBb (by omega) (fun g hg=>(Xj hq.own hg).1)⟩
 rcases hx' with h|⟨g,h,hg⟩
 ·rw[h];exact hne
 ·rw[h];intro e;have:=Option.some.inj e;omega
theorem order_l (cL c1:Nat) (a a1:Option Addr) (L O:List (List Int)) (w:World) (hL:KvB w.heap.size w (.slice a L.length cL) L) (hO:KvB w.heap.size w (.slice a1 L.length c1) O) (hK:Kin L O L.length) (hl0:∀m,(L.getD m []).length≤1000) (hn:L.length≤400000):
  Calls Tryz.prog 39 #[.agg #[.slice a L.length cL,.slice a1 L.length c1]] w fun e w'=>∃(v':Value) (out S:List Int),e= .returned v'∧w'.ownsRow w.heap.size 3 1 v' out.length (out.map (Value.int .i64))∧OrI L L.length S [] out∧Below w.heap.size w w':=by
 have HE:∀args W,(callFunc 69 args).run Tryz.prog W= .ok (.enter 69 args) W:=enterK Tryz.func69 (by kernel_rfl) rfl
 generalize hnn:L.length=n at*
 go_enter Tryz.func39,Tryz.ntmps39
 go_wp2_with fail
 have G0:=heap_alloc_new w (.cells #[.slice a n cL,.slice a1 n c1] 62)
 have Z0:=XK G0
 have BW0:Below w.heap.size w (w.alloc (.cells #[.slice a n cL,.slice a1 n c1] 62)):=Below.new1 _
 have hsz:(w.alloc (.cells #[.slice a n cL,.slice a1 n c1] 62)).heap.size=w.heap.size+1:=by simp
 generalize w.alloc (.cells #[.slice a n cL,.slice a1 n c1] 62)=W at*
 have HBW:=zk BW0
 clear BW0
 refine wp_region_held_drew (S:=(fun w'=>w'.cell? ⟨w.heap.size,0,none⟩=some (.slice a n cL)∧w'.cell? ⟨w.heap.size,1,none⟩=some (.slice a1 n c1))) (by kernel_rfl) Z0 (fun hHeld=> ?_)
 refine tkh 0 ?_ rfl (by kernel_rfl) (fun _ _ _ h=>h) ?_ (by assumption) ?_
 rotate_left
 ·intro w hSw;obtain⟨y0,y1⟩:=hSw;go_simp;(try with_reducible rfl)
 refine tkh 1 ?_ rfl (by kernel_rfl) (fun _ _ _ h=>h) ?_ (by assumption) ?_
 rotate_left
 ·intro w hSw;obtain⟨y0,y1⟩:=hSw;go_simp;(try with_reducible rfl)
 refine tkh 2 ?_ rfl (by kernel_rfl) (fun _ _ _ h=>h) ?_ (by assumption) ?_
 rotate_left
 ·intro w hSw;obtain⟨y0,y1⟩:=hSw;go_simp;(try with_reducible rfl)
 refine tkh 3 ?_ rfl (by kernel_rfl) (fun _ _ _ h=>h) ?_ (by assumption) ?_
 rotate_left
 ·intro w hSw;obtain⟨y0,y1⟩:=hSw;go_simp;(try with_reducible rfl)
 refine wpAnyH_ready (rs:=[4,6]) (by kernel_rfl) (by simp) ?_
 refine AllReadyH.cons rfl (fun K hK=> ?_) (AllReadyH.cons rfl (fun K hK=> ?_) AllReadyH.nil)
 ·obtain⟨w1,hr,hB,gr⟩:=mk_int w.heap.size n W.drew (by omega) (by show w.heap.size≤W.heap.size;omega)
  go_simp
  have k1:w1.cell? ⟨w.heap.size,0,none⟩=some (.slice a n cL)∧w1.cell? ⟨w.heap.size,1,none⟩=some (.slice a1 n c1):=by
   have e:w1.heap[w.heap.size]? =W.heap[w.heap.size]? :=gr.block w.heap.size (show w.heap.size<W.heap.size by omega) (by simp)
   exact⟨(XZ e 0).trans Z0.1,(XZ e 1).trans Z0.2⟩
  refine hK.out _ _ k1 (fun hHeld=> ?_)
  clear hK K
  refine tkh 5 ?_ rfl (by kernel_rfl) (fun _ _ _ h=>h) ?_ (by assumption) ?_
  rotate_left
  ·intro w hSw;go_simp;(try with_reducible rfl)
  refine wpAnyH_ready (rs:=[6]) (by kernel_rfl) (by simp) ?_
  refine AllReadyH.cons rfl (fun K hK=> ?_) AllReadyH.nil
  go_simp
  refine hK.out _ _ (⟨(XY _ _ (by show w.heap.size<w1.heap.size;have:=gr.size;have:W.drew.heap.size=W.heap.size:=rfl;omega)).trans k1.1,(XY _ _ (by show w.heap.size<w1.heap.size;have:=gr.size;have:W.drew.heap.size=W.heap.size:=rfl;omega)).trans k1.2⟩) (fun hHeld=> ?_)
  clear hK K
  refine wpAnyH_ready (rs:=[7]) (by kernel_rfl) (by simp) ?_
  refine AllReadyH.cons rfl (fun K hK=> ?_) AllReadyH.nil
  go_simp
  have sz1:W.heap.size≤w1.heap.size:=gr.size
  have k2:(w1.alloc (.cells #[.slice a n cL,.slice a1 n c1,.slice none 0 0,.slice (some ⟨w.heap.size+1,0,none⟩) n n,.slice none 0 0] 68)).cell? ⟨w.heap.size,0,none⟩=some (.slice a n cL)∧(w1.alloc (.cells #[.slice a n cL,.slice a1 n c1,.slice none 0 0,.slice (some ⟨w.heap.size+1,0,none⟩) n n,.slice none 0 0] 68)).cell? ⟨w.heap.size,1,none⟩=some (.slice a1 n c1):=⟨(XY _ _ (by show w.heap.size<w1.heap.size;omega)).trans k1.1,(XY _ _ (by show w.heap.size<w1.heap.size;omega)).trans k1.2⟩
  refine hK.out _ _ k2 (fun hHeld=> ?_)
  clear hK K
  refine wpAnyH_done (by kernel_rfl) ?_ _
  have BW:=zq HBW
  have sD:W.drew.heap.size=W.heap.size:=rfl
  have FB:(w1.alloc (.cells #[.slice a n cL,.slice a1 n c1,.slice none 0 0,.slice (some ⟨w.heap.size+1,0,none⟩) n n,.slice none 0 0] 68)).heap[w1.heap.size]? =some (.cells #[.slice a n cL,.slice a1 n c1,.slice none 0 0,.slice (some ⟨w.heap.size+1,0,none⟩) n n,.slice none 0 0] 68):=heap_alloc_new _ _
  have FR:QR (w1.alloc (.cells #[.slice a n cL,.slice a1 n c1,.slice none 0 0,.slice (some ⟨w.heap.size+1,0,none⟩) n n,.slice none 0 0] 68)) w.heap.size (w.heap.size+1) n n (List.replicate n 0):=by
   rw[sD,hsz]at hB
   exact hB.kept (heap_alloc_old w1 _ (Xj hB rfl).2)
  have FW:Below w.heap.size w (w1.alloc (.cells #[.slice a n cL,.slice a1 n c1,.slice none 0 0,.slice (some ⟨w.heap.size+1,0,none⟩) n n,.slice none 0 0] 68)):=(BW.trans ⟨gr.os,gr.tape,gr.output,gr.size,fun k hk=>gr.block k (show k<W.heap.size by omega) (by simp)⟩).alloc (by omega) _
  have D2:w.heap.size≤w1.heap.size:=by omega
  have D1:w1.heap.size≠w.heap.size+1:=by
   have:W.heap.size<w1.heap.size:=(Xj hB (rfl:(Value.slice (some ⟨W.drew.heap.size,0,none⟩) n n).ownBlock=some W.drew.heap.size)).2
   omega
  clear k1 k2 hB gr hr sz1 Z0 BW sD HBW
  generalize (w1.alloc (.cells #[.slice a n cL,.slice a1 n c1,.slice none 0 0,.slice (some ⟨w.heap.size+1,0,none⟩) n n,.slice none 0 0] 68))=X at*
  generalize w1.heap.size=b at*
  generalize w.heap.size+1=gs at*
  clear hsz
  have HL:=zk (hL.later FW)
  have HO:=zk (hO.later FW)
  have HK:=zk hK
  have HL0:=zk hl0
  have HFW:=zk FW
  have GI:=Xj FR (rfl:(Value.slice (some ⟨gs,0,none⟩) n n).ownBlock=some gs)
  have BI:b<X.heap.size:=(Array.getElem?_eq_some_iff.1 FB).1
  have I0:Hid (OrW b w.heap.size gs n (.slice a n cL) (.slice a1 n c1) L X 0 X):=⟨.slice none 0 0,[],List.replicate n 0,⟨FB,World.ownsRow_nil _ _ _ _,by simp[Value.ownBlock]⟩,Hp.nil,FR,by simp[Value.ownBlock],OrS.zero L n,Below.refl _ _⟩
  clear hL hO hK hl0 FW FB FR
  go_wp2_with fail
  go_loopw [15] (fun i wr=>∃k:Nat,k≤n∧i= .int .i64 (k:Int)∧Hid (OrW b w.heap.size gs n (.slice a n cL) (.slice a1 n c1) L X k wr)) (fun i _=>n-(intOf i).toNat)
  case atStart=>exact⟨0,Nat.zero_le _,rfl,I0⟩
  case round=>
   clear I0
   obtain⟨k,hk,rfl,hI⟩:=hrel
   obtain⟨v,l,S,hq,hp,hS,hne,hs,hb⟩:=zq hI
   by_cases hlt:k<n
   ·have hll:=(zq HK).ll
    obtain⟨ys,hys⟩:∃ys,L[k]? =some ys:=⟨L[k]'(by omega),List.getElem?_eq_getElem (by omega)⟩
    have hyD:L.getD k []=ys:=by rw[List.getD_eq_getElem?_getD,hys];rfl
    have hyl:=zq HL0 k
    rw[hyD]at hyl
    obtain⟨a',c',e',-,-,h3⟩:=(zq HL).later hb
    injection e' with e1 e2 e3
    subst e1;subst e3
    obtain⟨g,off,u,rfl,hg,qu,au,cu,rfl,-,-,-⟩:=h3 k ys hys
    obtain⟨-,-,-,q3,-,-⟩:=XX hq.bk
    have hz:=hS.fz k
    have hc:=hS.at hlt
    have HQ:=zk hq
    have HS:=zk hS
    have HB:=zk hb
    have HSS:=zk hs
    have HY:=zk hyD
    have hsz:=hs.small
    have HP:=zk hp
    clear h3 e2 hys hq hS hb hs hyD hI hll hp
    have keepk:∀u j,j≠gs→(wr.setCell ⟨gs,k,none⟩ u).heap[j]? =wr.heap[j]? :=fun u j hj=>heap_setCell_other wr ⟨gs,k,none⟩ j u (by simpa using hj)
    have HKK:=zk keepk
    clear keepk
    by_cases h0:ys.length=0
    ·have hb0:((ys.length:Int)==0)=true:=by rw[h0];rfl
     have CP:=zk (put_l b w.heap.size _ _ v _ _ l k (wr.setCell ⟨gs,k,none⟩ (.int .i64 0)) ((zq HQ).kept (zq HKK _ b D1) (fun g hg=>zq HKK _ g (fun e=>hne (by rw[hg,e])))) (by omega) (by simp;have:=(zq HB).size;omega) (zq HP))
     go_wp2_with fail
     refine(zq CP).mono ?_
     rintro e w2 ⟨rfl,v',l',hp',hh',hq',hQ,hx'⟩
     have FIN:=OrW.yes HQ HS HB HSS hne HY HKK h0 hlt D1 D2 hp' hh' hq' (by rw[h0];exact hQ) (by rw[h0];exact hx')
     clear CP hp' hh' hq' hQ hx'
     go_wp2_with fail
     go_roundw
     case rel=>exact⟨k+1,by omega,by simp,FIN⟩
     case measure=>simp only[intOf];omega
    ·have hb0:((ys.length:Int)==0)=false:=beq_eq_false_iff_ne.2 (by omega)
     go_wp2_with fail
     go_roundw
     case rel=>exact⟨k+1,by omega,by simp,OrW.no HQ HS HB HSS HP hne HY HKK h0 hlt D1⟩
     case measure=>simp only[intOf];omega
   ·obtain rfl:k=n:=by omega
    have hw2:=hq.lt
    have hg2:w.heap.size≤gs∧gs<wr.heap.size:=Xj hS (rfl:(Value.slice (some ⟨gs,0,none⟩) k k).ownBlock=some gs)
    have hBX:w.heap.size≤wr.heap.size:=by omega
    have hM:OrM b w.heap.size gs k k (.slice a k cL) (.slice a1 k c1) (.slice none 0 0) L O wr v l []:=
     ⟨hq,hp,hne,(zq HO).later hb,S,hS,hs.done⟩
    have CR:=zk (run_l (OrM b w.heap.size gs k k (.slice a k cL) (.slice a1 k c1) (.slice none 0 0) L O) 69 b w.heap.size k HE _ _ _ _ v l wr (by omega) D2 (OrM.run _) (or_step b w.heap.size gs k k wr.heap.size _ _ _ L O (zq HK) (zq HL0) hn D1 D2 hg2.2 hw2 hBX) hM)
    have HB2:=zk hb
    clear hq hp hS hne hs hb hM
    go_wp2_with fail
    refine(zq CR).mono ?_
    rintro e w3 ⟨v',out,vq,rfl,O3,M3,B3⟩
    obtain⟨S3,-,I3⟩:=M3.go
    have HOW:=zk (Xi O3 hBX)
    have HI:=zk I3
    have HB3:=zk (((zq HFW).trans (zq HB2)).trans B3)
    clear CR O3 M3 B3 I3
    go_wp2_with fail
    go_ret
    exact⟨v',out,S3,rfl,zq HOW,zq HI,zq HB3⟩
 ·go_simp
  refine hK.out _ _ (⟨(XY _ _ (by show w.heap.size<W.heap.size;omega)).trans Z0.1,(XY _ _ (by show w.heap.size<W.heap.size;omega)).trans Z0.2⟩) (fun hHeld=> ?_)
  clear hK K
  refine wpAnyH_ready (rs:=[4]) (by kernel_rfl) (by simp) ?_
  refine AllReadyH.cons rfl (fun K hK=> ?_) AllReadyH.nil
  obtain⟨w1,hr,hB,gr⟩:=mk_int w.heap.size n (W.alloc (.cells #[.slice none 0 0,.slice none 0 0,.slice none 0 0,.slice none 0 0,.slice none 0 0] 68)).drew (by omega) (by show w.heap.size≤(W.alloc _).heap.size;simp;omega)
  go_simp
  have sz1:W.heap.size+1≤w1.heap.size:=by have:=gr.size;simpa using this
  have k1:w1.cell? ⟨w.heap.size,0,none⟩=some (.slice a n cL)∧w1.cell? ⟨w.heap.size,1,none⟩=some (.slice a1 n c1):=by
   have e:w1.heap[w.heap.size]? =(W.alloc (.cells #[.slice none 0 0,.slice none 0 0,.slice none 0 0,.slice none 0 0,.slice none 0 0] 68)).heap[w.heap.size]? :=gr.block w.heap.size (show w.heap.size<(W.alloc _).heap.size by simp;omega) (by simp)
   have e2:w1.heap[w.heap.size]? =W.heap[w.heap.size]? :=e.trans (heap_alloc_old W _ (by omega))
   exact⟨(XZ e2 0).trans Z0.1,(XZ e2 1).trans Z0.2⟩
  have G5:w1.heap[w.heap.size+1]? =some (.cells #[.slice none 0 0,.slice none 0 0,.slice none 0 0,.slice none 0 0,.slice none 0 0] 68):=by
   have e:w1.heap[w.heap.size+1]? =(W.alloc (.cells #[.slice none 0 0,.slice none 0 0,.slice none 0 0,.slice none 0 0,.slice none 0 0] 68)).heap[w.heap.size+1]? :=gr.block (w.heap.size+1) (show w.heap.size+1<(W.alloc _).heap.size by simp;omega) (by simp)
   rw[e,←hsz];exact heap_alloc_new _ _
  refine hK.out _ _ k1 (fun hHeld=> ?_)
  clear hK K
  refine tkh 5 ?_ rfl (by kernel_rfl) (fun _ _ _ h=>h) ?_ (by assumption) ?_
  rotate_left
  ·intro w hSw;go_simp;(try with_reducible rfl)
  refine wpAnyH_ready (rs:=[7]) (by kernel_rfl) (by simp) ?_
  refine AllReadyH.cons rfl (fun K hK=> ?_) AllReadyH.nil
  obtain⟨q0,q1,q2,q3,q4,qz⟩:=XX G5
  go_simp
  obtain⟨FB,s1,s2,s3,s4,s5⟩:=set5 G5 (.slice a n cL) (.slice a1 n c1) (.slice none 0 0) (.slice (some ⟨w.heap.size+1+1,0,none⟩) n n) (.slice none 0 0)
  have BW:=zq HBW
  have sA:(W.alloc (.cells #[.slice none 0 0,.slice none 0 0,.slice none 0 0,.slice none 0 0,.slice none 0 0] 68)).drew.heap.size=w.heap.size+1+1:=by show(W.alloc _).heap.size=_;simp[hsz]
  rw[sA]at hB
  generalize hX:(((((w1.setCell ⟨w.heap.size+1,0,none⟩ (.slice a n cL)).setCell ⟨w.heap.size+1,1,none⟩ (.slice a1 n c1)).setCell ⟨w.heap.size+1,2,none⟩ (.slice none 0 0)).setCell ⟨w.heap.size+1,3,none⟩ (.slice (some ⟨w.heap.size+1+1,0,none⟩) n n)).setCell ⟨w.heap.size+1,4,none⟩ (.slice none 0 0))=X at*
  have k3:X.cell? ⟨w.heap.size,0,none⟩=some (.slice a n cL)∧X.cell? ⟨w.heap.size,1,none⟩=some (.slice a1 n c1):=⟨(XZ (s2 _ (by omega)) 0).trans k1.1,(XZ (s2 _ (by omega)) 1).trans k1.2⟩
  refine hK.out _ _ k3 (fun hHeld=> ?_)
  clear hK K
  refine wpAnyH_done (by kernel_rfl) ?_ _
  have FR:QR X w.heap.size (w.heap.size+1+1) n n (List.replicate n 0):=hB.kept (s2 _ (by omega))
  have FW:Below w.heap.size w X:=by
   have b1:Below w.heap.size w (W.alloc (.cells #[.slice none 0 0,.slice none 0 0,.slice none 0 0,.slice none 0 0,.slice none 0 0] 68)).drew:=(BW.alloc (by omega) _).drew
   have b2:Below w.heap.size w w1:=b1.trans ⟨gr.os,gr.tape,gr.output,gr.size,fun k hk=>gr.block k (by rw[sA];omega) (by simp)⟩
   exact b2.trans ⟨s3,s4,s5,by omega,fun k hk=>s2 k (by omega)⟩
  have D2:w.heap.size≤w.heap.size+1:=by omega
  have D1:w.heap.size+1≠w.heap.size+1+1:=by omega
  clear k1 k3 hB gr hr sz1 Z0 BW sA HBW hX s1 s2 s3 s4 s5 q0 q1 q2 q3 q4 qz G5
  generalize w.heap.size+1+1=gs at*
  generalize w.heap.size+1=b at*
  clear hsz
  have HL:=zk (hL.later FW)
  have HO:=zk (hO.later FW)
  have HK:=zk hK
  have HL0:=zk hl0
  have HFW:=zk FW
  have GI:=Xj FR (rfl:(Value.slice (some ⟨gs,0,none⟩) n n).ownBlock=some gs)
  have BI:b<X.heap.size:=(Array.getElem?_eq_some_iff.1 FB).1
  have I0:Hid (OrW b w.heap.size gs n (.slice a n cL) (.slice a1 n c1) L X 0 X):=⟨.slice none 0 0,[],List.replicate n 0,⟨FB,World.ownsRow_nil _ _ _ _,by simp[Value.ownBlock]⟩,Hp.nil,FR,by simp[Value.ownBlock],OrS.zero L n,Below.refl _ _⟩
  clear hL hO hK hl0 FW FB FR
  go_wp2_with fail
  go_loopw [15] (fun i wr=>∃k:Nat,k≤n∧i= .int .i64 (k:Int)∧Hid (OrW b w.heap.size gs n (.slice a n cL) (.slice a1 n c1) L X k wr)) (fun i _=>n-(intOf i).toNat)
  case atStart=>exact⟨0,Nat.zero_le _,rfl,I0⟩
  case round=>
   clear I0
   obtain⟨k,hk,rfl,hI⟩:=hrel
   obtain⟨v,l,S,hq,hp,hS,hne,hs,hb⟩:=zq hI
   by_cases hlt:k<n
   ·have hll:=(zq HK).ll
    obtain⟨ys,hys⟩:∃ys,L[k]? =some ys:=⟨L[k]'(by omega),List.getElem?_eq_getElem (by omega)⟩
    have hyD:L.getD k []=ys:=by rw[List.getD_eq_getElem?_getD,hys];rfl
    have hyl:=zq HL0 k
    rw[hyD]at hyl
    obtain⟨a',c',e',-,-,h3⟩:=(zq HL).later hb
    injection e' with e1 e2 e3
    subst e1;subst e3
    obtain⟨g,off,u,rfl,hg,qu,au,cu,rfl,-,-,-⟩:=h3 k ys hys
    obtain⟨-,-,-,q3,-,-⟩:=XX hq.bk
    have hz:=hS.fz k
    have hc:=hS.at hlt
    have HQ:=zk hq
    have HS:=zk hS
    have HB:=zk hb
    have HSS:=zk hs
    have HY:=zk hyD
    have hsz:=hs.small
    have HP:=zk hp
    clear h3 e2 hys hq hS hb hs hyD hI hll hp
    have keepk:∀u j,j≠gs→(wr.setCell ⟨gs,k,none⟩ u).heap[j]? =wr.heap[j]? :=fun u j hj=>heap_setCell_other wr ⟨gs,k,none⟩ j u (by simpa using hj)
    have HKK:=zk keepk
    clear keepk
    by_cases h0:ys.length=0
    ·have hb0:((ys.length:Int)==0)=true:=by rw[h0];rfl
     have CP:=zk (put_l b w.heap.size _ _ v _ _ l k (wr.setCell ⟨gs,k,none⟩ (.int .i64 0)) ((zq HQ).kept (zq HKK _ b D1) (fun g hg=>zq HKK _ g (fun e=>hne (by rw[hg,e])))) (by omega) (by simp;have:=(zq HB).size;omega) (zq HP))
     go_wp2_with fail
     refine(zq CP).mono ?_
     rintro e w2 ⟨rfl,v',l',hp',hh',hq',hQ,hx'⟩
     have FIN:=OrW.yes HQ HS HB HSS hne HY HKK h0 hlt D1 D2 hp' hh' hq' (by rw[h0];exact hQ) (by rw[h0];exact hx')
     clear CP hp' hh' hq' hQ hx'
     go_wp2_with fail
     go_roundw
     case rel=>exact⟨k+1,by omega,by simp,FIN⟩
     case measure=>simp only[intOf];omega
    ·have hb0:((ys.length:Int)==0)=false:=beq_eq_false_iff_ne.2 (by omega)
     go_wp2_with fail
     go_roundw
     case rel=>exact⟨k+1,by omega,by simp,OrW.no HQ HS HB HSS HP hne HY HKK h0 hlt D1⟩
     case measure=>simp only[intOf];omega
   ·obtain rfl:k=n:=by omega
    have hw2:=hq.lt
    have hg2:w.heap.size≤gs∧gs<wr.heap.size:=Xj hS (rfl:(Value.slice (some ⟨gs,0,none⟩) k k).ownBlock=some gs)
    have hBX:w.heap.size≤wr.heap.size:=by omega
    have hM:OrM b w.heap.size gs k k (.slice a k cL) (.slice a1 k c1) (.slice none 0 0) L O wr v l []:=
     ⟨hq,hp,hne,(zq HO).later hb,S,hS,hs.done⟩
    have CR:=zk (run_l (OrM b w.heap.size gs k k (.slice a k cL) (.slice a1 k c1) (.slice none 0 0) L O) 69 b w.heap.size k HE _ _ _ _ v l wr (by omega) D2 (OrM.run _) (or_step b w.heap.size gs k k wr.heap.size _ _ _ L O (zq HK) (zq HL0) hn D1 D2 hg2.2 hw2 hBX) hM)
    have HB2:=zk hb
    clear hq hp hS hne hs hb hM
    go_wp2_with fail
    refine(zq CR).mono ?_
    rintro e w3 ⟨v',out,vq,rfl,O3,M3,B3⟩
    obtain⟨S3,-,I3⟩:=M3.go
    have HOW:=zk (Xi O3 hBX)
    have HI:=zk I3
    have HB3:=zk (((zq HFW).trans (zq HB2)).trans B3)
    clear CR O3 M3 B3 I3
    go_wp2_with fail
    go_ret
    exact⟨v',out,S3,rfl,zq HOW,zq HI,zq HB3⟩
theorem nd_map {f:Nat→Int} (hf:∀a b,f a=f b→a=b) {l:List Nat} (h:l.Nodup):(l.map f).Nodup:=by
 unfold List.Nodup at*
 rw[List.pairwise_map]
 rw[List.pairwise_iff_getElem]at*
 intro i j hi hj hij e
 exact h i j hi hj hij (hf _ _ e)
def Xe (f:Nat→Nat) (q:Nat):Nat→Nat
 |0=>q
 |k+1=>f (Xe f q k)
theorem chain_comes {L:List (List Int)} {f:Nat→Nat} {q:Nat} (h:∀k,((f (Xe f q k):Nat):Int)∈L.getD (Xe f q k) []):∀(d i:Nat),Cms L (Xe f q i) ((Xe f q (i+d+1):Nat):Int):=by
 intro d
 induction d with
 |zero=>intro i;exact .one (h i)
 |succ d ih=>intro i;exact(ih i).more (h (i+d+1))
theorem circle_of {L O:List (List Int)} {n:Nat} {W out:List Int} (hk:Kin L O n) (h:OrI L n W [] out) (hlt:out.length<n):∃q:Nat,q<n∧Cms L q (q:Int):=by
 have e:out++[]=out:=List.append_nil _
 -- somebody is not in it
 have h1:∃q:Nat,q<n∧(q:Int)∉out:=by
  apply Classical.byContradiction
  intro hno
  have hall:∀q:Nat,q<n→(q:Int)∈out:=fun q hq=>Classical.byContradiction fun hn=>hno ⟨q,hq,hn⟩
  have:((List.range n).map (fun q:Nat=>(q:Int))).length≤out.length:=by
   apply List.Nodup.length_le_of_subset
   ·exact nd_map (fun a b e=>Int.ofNat.inj e) List.nodup_range
   ·intro y hy
    obtain⟨q,hq,rfl⟩:=List.mem_map.1 hy
    exact hall q (List.mem_range.1 hq)
  simp at this;omega
 -- and has a left that is not
 have h2:∀q:Nat,∃p:Nat,q<n→(q:Int)∉out→p<n∧(p:Int)∉out∧(p:Int)∈L.getD q []:=by
  intro q
  by_cases hq:q<n
  ·by_cases ho:(q:Int)∈out
   ·exact⟨0,fun _ h=>absurd ho h⟩
   ·have hm:=(h.may q hq)
    rw[e]at hm
    have hne:¬∀y∈L.getD q [],y∈out:=fun c=>ho (hm.2 (left_zero.2 c))
    obtain⟨y,hy⟩:=Classical.not_forall.1 hne
    obtain⟨hy1,hy2⟩:=Classical.not_imp.1 hy
    obtain⟨p,rfl,hp⟩:=hk.lin.at q y hy1
    exact⟨p,fun _ _=>⟨hp,hy2,hy1⟩⟩
  ·exact⟨0,fun h=>absurd h hq⟩
 obtain⟨f,hf⟩:=Classical.axiomOfChoice h2
 obtain⟨q,hq,hqo⟩:=h1
 have hc:∀k,Xe f q k<n∧((Xe f q k:Nat):Int)∉out:=by
  intro k
  induction k with
  |zero=>exact⟨hq,hqo⟩
  |succ k ih=>exact⟨(hf _ ih.1 ih.2).1,(hf _ ih.1 ih.2).2.1⟩
 have hl:∀k,((f (Xe f q k):Nat):Int)∈L.getD (Xe f q k) []:=fun k=>(hf _ (hc k).1 (hc k).2).2.2
 -- two of them are one
 have h3:∃i j:Nat,i<j∧Xe f q i=Xe f q j:=by
  apply Classical.byContradiction
  intro hno
  have hd:((List.range (n+1)).map (fun k=>((Xe f q k:Nat):Int))).Nodup:=by
   refine nd_map (fun a b e=> ?_) List.nodup_range
   have e:Xe f q a=Xe f q b:=Int.ofNat.inj e
   rcases Nat.lt_trichotomy a b with c|c|c
   ·exact absurd ⟨a,b,c,e⟩ hno
   ·exact c
   ·exact absurd ⟨b,a,c,e.symm⟩ hno
  have:=nd_len n _ hd (fun y hy=>by
   obtain⟨k,-,rfl⟩:=List.mem_map.1 hy
   exact⟨_,rfl,(hc k).1⟩)
  simp at this;omega
 obtain⟨i,j,hij,he⟩:=h3
 refine⟨Xe f q i,(hc i).1,?_⟩
 have:=chain_comes hl (j-i-1) i
 rw[show i+(j-i-1)+1=j by omega,←he]at this
 exact this
end Go.Proofs.YtcblkmlcbedomaaGreatDoor.K

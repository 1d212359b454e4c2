/- Parts of the proof that stand ahead of it (T 25). -/
import Derived.Test.YtcblkmlcbedomaaGreatDoorTM20
import Derived.Test.YtcblkmlcbedomaaGreatDoorTM24
import Derived.Test.YtcblkmlcbedomaaGreatDoorTM11
import Derived.Test.YtcblkmlcbedomaaGreatDoorTM2
set_option linter.unusedVariables false
set_option linter.unusedSimpArgs false
set_option maxRecDepth 20000
set_option maxHeartbeats 16000000
namespace Go.Proofs.YtcblkmlcbedomaaGreatDoor.T
open Go.RowKit
theorem sign_scalar {r:List Int} (hb:U.zv r) {x:Int} {k:Nat} (h:jk r=some (x,k)):U.zo x=true:=by
 unfold jk at h
 split at h
 ·cases h
 ·next h0=>
  split at h
  ·split at h
   ·cases h
   ·next c=>
    simp only[Option.some.injEq]at h
    rcases U.Yo hb with ⟨e,_⟩|⟨_,e⟩|⟨r',hm,e,_⟩
    ·exact absurd e h0
    ·rw[e]at c;exact absurd (show(-1:Int)<32 by omega) (fun z=>c (.inl z))
    ·rw[e]at h
     simp only[Prod.mk.injEq]at h
     rw[←h.1];exact hm
  ·split at h
   ·cases h
   ·split at h
    ·cases h
    ·next c=>
     simp only[Option.some.injEq,Prod.mk.injEq]at h
     rw[←h.1]
     cases e:U.zo (yi 6 0 (List.drop 2 r)).1 with
     |true=>rfl
     |false=>exact absurd (Or.inr (Or.inl e)) c
theorem one_range {b:Bool} {r:List Int} (hb:U.zv r) {x:Int} {k:Nat} (h:ja b r=some (x,k)):0≤x∧x≤1114111:=by
 cases b with
 |true=>have:=one_hex h;omega
 |false=>
  have:=(U.qQ x).1 (sign_scalar hb h)
  omega
theorem item_range {b:Bool} {r:List Int} (hb:U.zv r) {x:Int×Int} {n:Nat} (h:yz b r=some (x,n)):0≤x.1∧x.1≤x.2∧x.2≤1114111:=by
 unfold yz at h
 cases e:ja b r with
 |none=>rw[e]at h;cases h
 |some p=>
  obtain⟨lo,k⟩:=p
  have r1:=one_range hb e
  rw[e]at h
  simp only at h
  split at h
  ·cases e2:ja b (r.drop (k+1))with
   |none=>rw[e2]at h;cases h
   |some q=>
    obtain⟨to,m⟩:=q
    have r2:=one_range (U.zZ hb (k+1)) e2
    rw[e2]at h
    simp only at h
    split at h
    ·cases h
    ·simp only[Option.some.injEq,Prod.mk.injEq]at h
     obtain⟨rfl,rfl⟩:=h
     simp only
     omega
  ·simp only[Option.some.injEq,Prod.mk.injEq]at h
   obtain⟨rfl,rfl⟩:=h
   simp only
   omega
theorem items_fits (b:Bool):∀(f:Nat) (r:List Int),U.zv r→r.length≤f→∀x∈(zV b r).1,yQ x.1∧yQ x.2:=by
 intro f
 induction f with
 |zero=>
  intro r hb h
  have:r=[]:=List.eq_nil_of_length_eq_zero (by omega)
  subst this
  rw[jo (item_nil b)]
  intro x hx;cases hx
 |succ f ih=>
  intro r hb h
  cases e:yz b r with
  |none=>rw[jo e];intro x hx;cases hx
  |some p=>
   obtain⟨x,n⟩:=p
   have hn:=qv b r x n hb e
   have hr:=item_range hb e
   have:=ih (r.drop n) (U.zZ hb n) (by rw[List.length_drop];omega)
   rw[YK hb e]
   intro y hy
   rcases List.mem_cons.1 hy with rfl|hy
   ·unfold yQ;omega
   ·exact this y hy
theorem stop_hex (r:List Int) (h:r.getD 0 0=62):yz true r=none:=by
 have:ZZ r= -1:=by
  unfold ZZ
  rw[h,if_pos (.inl (by decide))]
 unfold yz ja
 simp[this]
theorem stop_cls (r:List Int) (h:r.getD 0 0=93):yz false r=none:=by
 have h0:r≠[]:=by intro c;rw[c]at h;exact absurd h (by decide)
 have:jk r=none:=by
  unfold jk
  rw[if_neg h0,if_pos (by rw[h];omega)]
  have e:U.yw r=(93,1):=by
   unfold U.yw
   rw[if_neg h0,h]
   have hl:1≤r.length:=by cases r<;>simp_all
   have m1:U.zW 93=1:=by decide
   rw[m1,if_neg (by omega)]
   have e2:U.xY 1 r=93:=by
    show r.getD 0 0=93
    exact h
   rw[e2]
   rfl
  rw[e]
  rfl
 unfold yz ja
 simp[this]
theorem tok_octs {l:List Int} (hb:U.zv l) (h:l.getD 0 0=60):xJ l=if (l.drop (1+(zV true (l.drop 1)).2)).getD 0 0=62 then some ((3,[],Yy (zV true (l.drop 1)).1),(zV true (l.drop 1)).2+2)else none:=by
 unfold xJ
 rw[h,if_neg (by decide),if_neg (by omega),if_neg (by decide),if_neg (by omega),if_pos rfl,items_gather (by omega) stop_hex _ _ (U.zZ hb 1) (Nat.le_refl _),List.drop_drop]
 by_cases c:(List.drop (1+(zV true (l.drop 1)).2) l).getD 0 0=62
 ·rw[if_pos c,if_pos c]
 ·rw[if_neg c,if_neg c]
theorem q9 {W:World} {g:Nat} {x0 x1 x2 x3:Value} {t:TypeId} (h:W.heap[g]? =some (.cells #[x0,x1,x2,x3] t)):
  (W.cell? ⟨g,0,none⟩=some x0∧W.cell? ⟨g,1,none⟩=some x1∧W.cell? ⟨g,2,none⟩=some x2∧W.cell? ⟨g,3,none⟩=some x3)∧
  (W.frozen? ⟨g,0,none⟩=false∧W.frozen? ⟨g,1,none⟩=false∧W.frozen? ⟨g,2,none⟩=false∧W.frozen? ⟨g,3,none⟩=false):=by
 refine⟨⟨?_,?_,?_,?_⟩,?_,?_,?_,?_⟩<;>simp[World.cell?,World.frozen?,h]
theorem set4 {B:Nat} {a w:World} (h:Below B a w) {g:Nat} (hg:B≤g) (x0 x1 x2 x3:Value):Below B a ((((w.setCell ⟨g,0,none⟩ x0).setCell ⟨g,1,none⟩ x1).setCell ⟨g,2,none⟩ x2).setCell ⟨g,3,none⟩ x3):=
 Below.setCell (Below.setCell (Below.setCell (Below.setCell h (show B≤(⟨g,0,none⟩:Addr).block from hg) _) (show B≤(⟨g,1,none⟩:Addr).block from hg) _) (show B≤(⟨g,2,none⟩:Addr).block from hg) _) (show B≤(⟨g,3,none⟩:Addr).block from hg) _
theorem Rs.set4 {w:World} {a:Option Addr} {len cap:Nat} {l:List (Int×Int)} (h:Rs w a len cap l∧Ty w a) {g:Nat} {cs:Array Value} (hg:w.heap[g]? =some (.cells cs 135)) (x0 x1 x2 x3:Value):
  Rs ((((w.setCell ⟨g,0,none⟩ x0).setCell ⟨g,1,none⟩ x1).setCell ⟨g,2,none⟩ x2).setCell ⟨g,3,none⟩ x3) a len cap l∧Ty ((((w.setCell ⟨g,0,none⟩ x0).setCell ⟨g,1,none⟩ x1).setCell ⟨g,2,none⟩ x2).setCell ⟨g,3,none⟩ x3) a:=by
 have hbg:∀b off,a=some ⟨b,off,none⟩→b≠g:=by
  intro b off e c
  subst c
  obtain⟨cs',fr,hk⟩:=h.2 b off e
  rw[hg]at hk
  injection hk with hk
  injection hk with _ hk
  exact absurd hk (by decide)
 constructor
 ·refine⟨h.1.hlen,h.1.hcap,h.1.hmax,h.1.hfit,fun i hi=> ?_⟩
  obtain⟨b,off,ha,hc,hd⟩:=h.1.hcell i hi
  have ne:∀(k m:Nat),(⟨g,k,none⟩:Addr)≠⟨b,m,none⟩:=fun k m e=>hbg b off ha (by injection e with e1;exact e1.symm)
  refine⟨b,off,ha,?_,?_⟩
  ·rw[World.cell?_setCell_other (h:=ne _ _),World.cell?_setCell_other (h:=ne _ _),World.cell?_setCell_other (h:=ne _ _),World.cell?_setCell_other (h:=ne _ _)];exact hc
  ·rw[World.cell?_setCell_other (h:=ne _ _),World.cell?_setCell_other (h:=ne _ _),World.cell?_setCell_other (h:=ne _ _),World.cell?_setCell_other (h:=ne _ _)];exact hd
 ·intro b off e
  obtain⟨cs',fr,hk⟩:=h.2 b off e
  have hb:=hbg b off e
  refine⟨cs',fr,?_⟩
  rw[Below.heap_setCell _ _ _ _ hb,Below.heap_setCell _ _ _ _ hb,Below.heap_setCell _ _ _ _ hb,Below.heap_setCell _ _ _ _ hb]
  exact hk
theorem own_ty {w:World} {base:Nat} {a:Option Addr} {n m cap:Nat} {xs:List Value} (h:w.ownsRow base 51 2 (.slice a n cap) m xs):Ty w a:=by
 intro b off e
 rcases h.2 with ⟨e0,_⟩|⟨g,cap',cur,e0,_,hg,_⟩
 ·injection e0 with e1;rw[e]at e1;cases e1
 ·injection e0 with e1
  rw[e]at e1
  injection e1 with e1
  injection e1 with e1
  subst e1
  exact⟨_,_,hg⟩
theorem ano_is {w w':World} {p:Int→Bool} {R:List (Int×Int)} (hR:G.Is R p) {e:Ending} (h:AnO w p e w'):∃a cap,e= .returned (.slice a R.length cap)∧(Rs w' a R.length cap R∧Ty w' a)∧Below w.heap.size w w':=by
 obtain⟨v,out,he,ho,hi,hb⟩:=h
 have e1:out=R:=hi.unique hR (fun n=>rfl)
 subst e1
 obtain⟨a,cap,rfl,hr⟩:=Ow.rs ho (may_fits hi.1)
 exact⟨a,cap,he,⟨hr,own_ty ho⟩,hb⟩
theorem norm_o (a:Option Addr) (len cap:Nat) (l:List (Int×Int)) (w:World) (h:Rs w a len cap l) (hs:len≤1000000):
  Calls Tryz.prog 188 #[.slice a len cap] w (AnO w (inN l)):=(norm_any a len cap l w h hs).mono fun _ _ ⟨v,out,he,ho,hi,hb⟩=>⟨v,out,he,ho,hi,hb⟩
theorem st_gt:St ⟨#[62]⟩ [62]:=⟨rfl,by intro z hz;simp at hz;omega⟩
def qk:Obj:= .cells #[.int .i64 0,.string ⟨#[]⟩,.slice none 0 0,.int .i64 0] 135
theorem octets_l (a:Option Addr) (len cap:Nat) (l:List Int) (w:World) (h:Bs w a len cap l) (hl:len≤100000) (hp:1≤len) (h0:l.getD 0 0=60):
  Calls Tryz.prog 139 #[.slice a len cap] w fun e w'=>∃v n,e= .returned (.tuple #[v,.int .i64 (n:Nat)])∧TokO w' v n (xJ l)∧Below w.heap.size w w':=by
 rw[tok_octs h.hbytes h0]
 have hlen:=h.hlen
 have hcap:=h.hcap
 have il:=items_len true _ _ (U.zZ h.hbytes 1) (Nat.le_refl _)
 have ft:=zk (items_fits true _ _ (U.zZ h.hbytes 1) (Nat.le_refl _))
 rw[List.length_drop]at il
 have sl:=xk a len cap 1 1 rfl hp
 have HB:=zk (Bs.later h (Below.new1 qk) (Nat.le_refl _))
 have CI:=zk (fun W (hB:Bs W a len cap l)=>itemsH _ _ _ _ W (Bs.dropA hB 1 hp) (by omega))
 clear h h0
 generalize zV true (l.drop 1)=G at*
 obtain⟨xs,n⟩:=G
 simp only at il ft CI⊢
 have t1:=kQ (1+(n:Int)) (by omega)
 have t2:=kQ (1+(n:Int)+1) (by omega)
 have sl2:=xk a len cap (1+n) (1+(n:Int)) (by omega) (by omega)
 have CB:=zk (fun W (hB:Bs W a len cap l)=>jK _ _ _ _ W (Bs.dropA hB (1+n) (by omega)) ⟨#[62]⟩ [62] st_gt (by simp))
 rw[Zk (by omega)]at CB
 have CR:=zk (fun W x c (hR:Rs W x xs.length c xs)=>norm_o x xs.length c xs W hR (by omega))
 unfold qk at HB
 by_cases c:(l.drop (1+n)).getD 0 0=62
 ·rw[if_pos c]
  rw[decide_eq_true c]at CB
  clear c
  go_enter Tryz.func139,Tryz.ntmps139
  go_wp2_with fail
  refine(zq CI _ (zq HB)).mono ?_
  rintro e w1 ⟨v,rfl,o1,b1⟩
  obtain⟨x,cx,rfl,hR⟩:=Ow.rs o1 (zq ft)
  have HB1:=zk (Bs.later (zq HB) b1 (Nat.le_refl _))
  have HR:=zk hR
  clear CI HB hR o1 ft
  go_wp2_with fail
  refine(zq CB _ (zq HB1)).mono ?_
  rintro e w2 ⟨rfl,b2⟩
  have HR2:=zk (Rs.later (zq HR) b2 (Nat.le_refl _))
  clear CB HR HB1
  go_wp2_with fail
  refine(zq CR _ _ _ (zq HR2)).mono ?_
  intro e w3 an
  obtain⟨y,cy,rfl,hN,b3⟩:=ano_is (jj xs) an
  have HN:=zk hN
  clear CR HR2 an hN
  have B3:=zY (zY b1 b2) b3
  have HG:=ze B3
  obtain⟨⟨q0,q1,q2,q3⟩,f0,f1,f2,f3⟩:=q9 HG
  go_wp2_with fail
  (try simp only[Exit.inBlock,Exit.then])
  refine bodyPost_ret (v:= .tuple #[.agg #[.int .i64 3,.string ⟨#[]⟩,.slice y (Yy xs).length cy,.int .i64 0],.int .i64 ((n+2:Nat):Int)]) ?_ rfl ⟨_,_,rfl,.inr ⟨_,rfl,y,cy,rfl,Rs.set4 (zq HN) HG _ _ _ _⟩,?_⟩
  ·rw[results_cell_tmp rfl]
   go_simp
   omega
  ·exact set4 ((Below.new1 _).trans (B3.mono (by simp))) (Nat.le_refl _) _ _ _ _
 ·rw[if_neg c]
  rw[decide_eq_false c]at CB
  clear c
  go_enter Tryz.func139,Tryz.ntmps139
  go_wp2_with fail
  refine(zq CI _ (zq HB)).mono ?_
  rintro e w1 ⟨v,rfl,o1,b1⟩
  have HB1:=zk (Bs.later (zq HB) b1 (Nat.le_refl _))
  clear CI HB o1 ft
  go_wp2_with fail
  refine(zq CB _ (zq HB1)).mono ?_
  rintro e w2 ⟨rfl,b2⟩
  clear CB HB1 CR
  have B3:=zY b1 b2
  have HG:=ze B3
  obtain⟨⟨q0,q1,q2,q3⟩,f0,f1,f2,f3⟩:=q9 HG
  go_wp2_with fail
  (try simp only[Exit.inBlock,Exit.then])
  refine bodyPost_ret (v:= .tuple #[kY,.int .i64 (0:Nat)]) ?_ rfl ⟨_,_,rfl,.inl ⟨rfl,rfl,rfl⟩,?_⟩
  ·rw[results_cell_tmp rfl]
   go_simp
   try rfl
  ·exact set4 ((Below.new1 _).trans (B3.mono (by simp))) (Nat.le_refl _) _ _ _ _
theorem tok_cls {l:List Int} (hb:U.zv l) (h:l.getD 0 0=91):xJ l=if (l.drop (1+Zi l+(zV false (l.drop (1+Zi l))).2)).getD 0 0=93 then some ((2,[],kK (decide (Zi l=1)) (zV false (l.drop (1+Zi l))).1),(zV false (l.drop (1+Zi l))).2+2+Zi l)else none:=by
 unfold xJ
 rw[h,if_neg (by decide),if_neg (by omega),if_neg (by decide),if_neg (by omega),if_neg (by omega),if_pos rfl,items_gather (by omega) stop_cls _ _ (U.zZ hb (1+Zi l)) (Nat.le_refl _),List.drop_drop]
 by_cases c:(List.drop (1+Zi l+(zV false (l.drop (1+Zi l))).2) l).getD 0 0=93
 ·rw[if_pos c,if_pos c]
 ·rw[if_neg c,if_neg c]
theorem nrm_surr (n:Int):nrm [(55296,57343)] n=(G.dom n&&(decide (55296≤n)&&decide (n≤57343))):=by
 unfold nrm
 rw[G.jY]
theorem may_dom (n:Int):U.zo n=(G.dom n&& !(decide (55296≤n)&&decide (n≤57343))):=by
 unfold U.zo G.dom
 rw[Bool.eq_iff_iff]
 simp only[Bool.and_eq_true,decide_eq_true_eq,Bool.not_eq_true',Bool.and_eq_false_iff,decide_eq_false_iff_not]
 omega
theorem an_cls0 {w w':World} {xs:List (Int×Int)} {e:Ending} (h:AnO w (fun n=>nrm (Yy xs) n&& !nrm [(55296,57343)] n) e w'):∃a cap,e= .returned (.slice a (kK false xs).length cap)∧(Rs w' a (kK false xs).length cap (kK false xs)∧Ty w' a)∧Below w.heap.size w w':=by
 refine ano_is (class_is false xs) (h.congr fun n=>by
  simp only[Bool.false_eq_true,if_false]
  rw[nrm_surr,may_dom]
  unfold nrm
  rw[(jj xs).2]
  unfold inN
  cases G.dom n<;>cases (decide (55296≤n)&&decide (n≤57343))<;>cases G.hasB xs n<;>rfl)
theorem an_cls1 {w w':World} {xs A:List (Int×Int)} (hA:G.Is A (notP xs 1114111)) {e:Ending} (h:AnO w (fun n=>nrm A n&& !nrm [(55296,57343)] n) e w'):∃a cap,e= .returned (.slice a (kK true xs).length cap)∧(Rs w' a (kK true xs).length cap (kK true xs)∧Ty w' a)∧Below w.heap.size w w':=by
 refine ano_is (class_is true xs) (h.congr fun n=>by
  simp only[if_true]
  rw[nrm_surr,may_dom]
  unfold nrm
  rw[hA.2]
  unfold notP nrm
  have e3:G.hasB [(0,1114111)] n=G.dom n:=G.jY _ _ _
  rw[e3]
  cases G.dom n<;>cases (decide (55296≤n)&&decide (n≤57343))<;>cases G.hasB xs n<;>rfl)
theorem may_small {l:List (Int×Int)} (h:G.zo l=true):l.length≤1000000:=by
 have:=G.j6 h
 omega
theorem st_hat:St ⟨#[94]⟩ [94]:=⟨rfl,by intro z hz;simp at hz;omega⟩
theorem st_end:St ⟨#[93]⟩ [93]:=⟨rfl,by intro z hz;simp at hz;omega⟩
theorem class_0 (a:Option Addr) (len cap:Nat) (l:List Int) (w:World) (h:Bs w a len cap l) (hl:len≤100000) (hp:1≤len) (h0:l.getD 0 0=91) (hk:Zi l=0):
  Calls Tryz.prog 138 #[.slice a len cap] w fun e w'=>∃v n,e= .returned (.tuple #[v,.int .i64 (n:Nat)])∧TokO w' v n (xJ l)∧Below w.heap.size w w':=by
 rw[tok_cls h.hbytes h0,hk]
 have hlen:=h.hlen
 have hcap:=h.hcap
 have hat:pre [94] (l.drop 1)=false:=by
  rw[Zk (by omega),ZK]
  unfold Zi at hk
  split at hk
  ·next c=>omega
  ·next c=>exact decide_eq_false c
 have il:=items_len false _ _ (U.zZ h.hbytes 1) (Nat.le_refl _)
 have ft:=zk (items_fits false _ _ (U.zZ h.hbytes 1) (Nat.le_refl _))
 rw[List.length_drop]at il
 have sl:=xk a len cap 1 1 rfl (by omega)
 skip
 have HB:=zk (Bs.later h (Below.new1 qk) (Nat.le_refl _))
 have CH:=zk (fun W (hB:Bs W a len cap l)=>jK _ _ _ _ W (Bs.dropA hB 1 (by omega)) ⟨#[94]⟩ [94] st_hat (by simp))
 rw[hat]at CH
 have CI:=zk (fun W (hB:Bs W a len cap l)=>itemsS _ _ _ _ W (Bs.dropA hB 1 hp) (by omega))
 show Calls _ _ _ _ fun e w'=>∃v n,e= .returned (.tuple #[v,.int .i64 (n:Nat)])∧TokO w' v n (if (l.drop (1+(zV false (l.drop 1)).2)).getD 0 0=93 then some ((2,[],kK false (zV false (l.drop 1)).1),(zV false (l.drop 1)).2+2+0)else none)∧Below w.heap.size w w'
 clear h h0 hk hat
 generalize zV false (l.drop 1)=G at*
 obtain⟨xs,n⟩:=G
 simp only at il ft CI⊢
 have t1:=kQ (1+(n:Int)) (by omega)
 have t2:=kQ (1+(n:Int)+1) (by omega)
 have sl2:=xk a len cap (1+n) (1+(n:Int)) (by omega) (by omega)
 have CB:=zk (fun W (hB:Bs W a len cap l)=>jK _ _ _ _ W (Bs.dropA hB (1+n) (by omega)) ⟨#[93]⟩ [93] st_end (by simp))
 rw[Zk (by omega)]at CB
 have CR:=zk (fun W x c (hR:Rs W x xs.length c xs)=>norm_o x xs.length c xs W hR (by omega))
 skip
 unfold qk at HB
 by_cases c:(l.drop (1+n)).getD 0 0=93
 ·rw[if_pos c]
  rw[decide_eq_true c]at CB
  clear c
  go_enter Tryz.func138,Tryz.ntmps138
  go_wp2_with fail
  refine(zq CH _ (zq HB)).mono ?_
  rintro e w1 ⟨rfl,b1⟩
  have HB1:=zk (Bs.later (zq HB) b1 (Nat.le_refl _))
  clear CH HB
  go_wp2_with fail
  refine(zq CI _ (zq HB1)).mono ?_
  rintro e w2 ⟨v,rfl,o2,b2⟩
  obtain⟨x,cx,rfl,hR⟩:=Ow.rs o2 (zq ft)
  have HB2:=zk (Bs.later (zq HB1) b2 (Nat.le_refl _))
  have HR:=zk hR
  clear CI HB1 hR o2 ft
  go_wp2_with fail
  refine(zq CB _ (zq HB2)).mono ?_
  rintro e w3 ⟨rfl,b3⟩
  have HR3:=zk (Rs.later (zq HR) b3 (Nat.le_refl _))
  clear CB HR HB2
  go_wp2_with fail
  refine(zq CR _ _ _ (zq HR3)).mono ?_
  intro e w4 an
  obtain⟨y,cy,rfl,⟨hN,-⟩,b4⟩:=ano_is (jj xs) an
  have hnl:(Yy xs).length≤1000000:=may_small (jj xs).1
  have HN:=zk hN
  clear CR HR3 an hN
  have CL:=zk (rgLessO_any y (Yy xs).length cy (Yy xs) (some ⟨w4.heap.size,0,none⟩) 1 1 [(55296,57343)] (w4.alloc (boxRg 55296 57343)) (Rs.later (zq HN) (Below.new1 _) (Nat.le_refl _)) (Rs.single w4 55296 57343 (by unfold yQ;omega) (by unfold yQ;omega) _ rfl) hnl (by omega))
  clear HN
  unfold boxRg at CL
  go_wp2_with fail
  refine(zq CL).mono ?_
  intro e w5 an
  obtain⟨u,cu,rfl,hN,b5⟩:=an_cls0 an
  have HN:=zk hN
  clear CL an hN
  have B4:=zY (zY (zY b1 b2) b3) b4
  have B5:Below (w.alloc qk).heap.size (w.alloc qk) w5:=zY (zY B4 (Below.new1 _)) b5
  have HG:w5.heap[w.heap.size]? =some (.cells #[.int .i64 0,.string ⟨#[]⟩,.slice none 0 0,.int .i64 0] 135):=ze B5
  obtain⟨⟨q0,q1,q2,q3⟩,f0,f1,f2,f3⟩:=q9 HG
  clear B4
  go_wp2_with fail
  (try simp only[Exit.inBlock,Exit.then])
  refine bodyPost_ret (v:= .tuple #[.agg #[.int .i64 2,.string ⟨#[]⟩,.slice u (kK false xs).length cu,.int .i64 0],.int .i64 ((n+2+0:Nat):Int)]) ?_ rfl ⟨_,_,rfl,.inr ⟨_,rfl,u,cu,rfl,Rs.set4 (zq HN) HG _ _ _ _⟩,?_⟩
  ·rw[results_cell_tmp rfl]
   go_simp
   omega
  ·exact set4 ((Below.new1 _).trans (B5.mono (by simp))) (Nat.le_refl _) _ _ _ _
 ·rw[if_neg c]
  rw[decide_eq_false c]at CB
  clear c
  go_enter Tryz.func138,Tryz.ntmps138
  go_wp2_with fail
  refine(zq CH _ (zq HB)).mono ?_
  rintro e w1 ⟨rfl,b1⟩
  have HB1:=zk (Bs.later (zq HB) b1 (Nat.le_refl _))
  clear CH HB
  go_wp2_with fail
  refine(zq CI _ (zq HB1)).mono ?_
  rintro e w2 ⟨v,rfl,o2,b2⟩
  obtain⟨x,cx,rfl,hR⟩:=Ow.rs o2 (zq ft)
  have HB2:=zk (Bs.later (zq HB1) b2 (Nat.le_refl _))
  have HR:=zk hR
  clear CI HB1 hR o2 ft
  go_wp2_with fail
  refine(zq CB _ (zq HB2)).mono ?_
  rintro e w3 ⟨rfl,b3⟩
  have HR3:=zk (Rs.later (zq HR) b3 (Nat.le_refl _))
  clear CB HR HB2
  clear CR HR3
  have B3:=zY (zY b1 b2) b3
  have HG:=ze B3
  obtain⟨⟨q0,q1,q2,q3⟩,f0,f1,f2,f3⟩:=q9 HG
  go_wp2_with fail
  (try simp only[Exit.inBlock,Exit.then])
  refine bodyPost_ret (v:= .tuple #[kY,.int .i64 (0:Nat)]) ?_ rfl ⟨_,_,rfl,.inl ⟨rfl,rfl,rfl⟩,?_⟩
  ·rw[results_cell_tmp rfl]
   go_simp
   try rfl
  ·exact set4 ((Below.new1 _).trans (B3.mono (by simp))) (Nat.le_refl _) _ _ _ _
theorem class_1 (a:Option Addr) (len cap:Nat) (l:List Int) (w:World) (h:Bs w a len cap l) (hl:len≤100000) (hp:2≤len) (h0:l.getD 0 0=91) (hk:Zi l=1):
  Calls Tryz.prog 138 #[.slice a len cap] w fun e w'=>∃v n,e= .returned (.tuple #[v,.int .i64 (n:Nat)])∧TokO w' v n (xJ l)∧Below w.heap.size w w':=by
 rw[tok_cls h.hbytes h0,hk]
 have hlen:=h.hlen
 have hcap:=h.hcap
 have hat:pre [94] (l.drop 1)=true:=by
  rw[Zk (by omega),ZK]
  unfold Zi at hk
  split at hk
  ·next c=>exact decide_eq_true c
  ·next c=>omega
 have il:=items_len false _ _ (U.zZ h.hbytes 2) (Nat.le_refl _)
 have ft:=zk (items_fits false _ _ (U.zZ h.hbytes 2) (Nat.le_refl _))
 rw[List.length_drop]at il
 have sl:=xk a len cap 1 1 rfl (by omega)
 have sl1:=xk a len cap 2 2 rfl hp
 have HB:=zk (Bs.later h (Below.new1 qk) (Nat.le_refl _))
 have CH:=zk (fun W (hB:Bs W a len cap l)=>jK _ _ _ _ W (Bs.dropA hB 1 (by omega)) ⟨#[94]⟩ [94] st_hat (by simp))
 rw[hat]at CH
 have CI:=zk (fun W (hB:Bs W a len cap l)=>itemsS _ _ _ _ W (Bs.dropA hB 2 hp) (by omega))
 show Calls _ _ _ _ fun e w'=>∃v n,e= .returned (.tuple #[v,.int .i64 (n:Nat)])∧TokO w' v n (if (l.drop (2+(zV false (l.drop 2)).2)).getD 0 0=93 then some ((2,[],kK true (zV false (l.drop 2)).1),(zV false (l.drop 2)).2+2+1)else none)∧Below w.heap.size w w'
 clear h h0 hk hat
 generalize zV false (l.drop 2)=G at*
 obtain⟨xs,n⟩:=G
 simp only at il ft CI⊢
 have t1:=kQ (2+(n:Int)) (by omega)
 have t2:=kQ (2+(n:Int)+1) (by omega)
 have sl2:=xk a len cap (2+n) (2+(n:Int)) (by omega) (by omega)
 have CB:=zk (fun W (hB:Bs W a len cap l)=>jK _ _ _ _ W (Bs.dropA hB (2+n) (by omega)) ⟨#[93]⟩ [93] st_end (by simp))
 rw[Zk (by omega)]at CB
 have CR:=zk (fun W x c (hR:Rs W x xs.length c xs)=>norm_o x xs.length c xs W hR (by omega))
 have CT:=zk (fun W x c (hR:Rs W x xs.length c xs)=>rgNot_any x xs.length c xs 1114111 W hR (by omega) (by unfold yQ;omega))
 unfold qk at HB
 by_cases c:(l.drop (2+n)).getD 0 0=93
 ·rw[if_pos c]
  rw[decide_eq_true c]at CB
  clear c
  go_enter Tryz.func138,Tryz.ntmps138
  go_wp2_with fail
  refine(zq CH _ (zq HB)).mono ?_
  rintro e w1 ⟨rfl,b1⟩
  have HB1:=zk (Bs.later (zq HB) b1 (Nat.le_refl _))
  clear CH HB
  go_wp2_with fail
  refine(zq CI _ (zq HB1)).mono ?_
  rintro e w2 ⟨v,rfl,o2,b2⟩
  obtain⟨x,cx,rfl,hR⟩:=Ow.rs o2 (zq ft)
  have HB2:=zk (Bs.later (zq HB1) b2 (Nat.le_refl _))
  have HR:=zk hR
  clear CI HB1 hR o2 ft
  go_wp2_with fail
  refine(zq CB _ (zq HB2)).mono ?_
  rintro e w3 ⟨rfl,b3⟩
  have HR3:=zk (Rs.later (zq HR) b3 (Nat.le_refl _))
  clear CB HR HB2
  go_wp2_with fail
  refine(zq CR _ _ _ (zq HR3)).mono ?_
  intro e w4 an
  obtain⟨y,cy,rfl,⟨hN,-⟩,b4⟩:=ano_is (jj xs) an
  have HR4:=zk (Rs.later (zq HR3) b4 (Nat.le_refl _))
  clear CR HR3 an hN
  go_wp2_with fail
  refine(zq CT _ _ _ (zq HR4)).mono ?_
  intro e w4b an
  obtain⟨yb,lb,cyb,A,rfl,hN,hA,b4b⟩:=an
  have hnl:lb≤1000000:=by rw[←hN.hlen];exact may_small hA.1
  have HN:=zk hN
  clear CT HR4 hN
  have CL:=zk (rgLessO_any yb lb cyb A (some ⟨w4b.heap.size,0,none⟩) 1 1 [(55296,57343)] (w4b.alloc (boxRg 55296 57343)) (Rs.later (zq HN) (Below.new1 _) (Nat.le_refl _)) (Rs.single w4b 55296 57343 (by unfold yQ;omega) (by unfold yQ;omega) _ rfl) hnl (by omega))
  clear HN
  unfold boxRg at CL
  go_wp2_with fail
  refine(zq CL).mono ?_
  intro e w5 an
  obtain⟨u,cu,rfl,hN,b5⟩:=an_cls1 hA an
  have HN:=zk hN
  clear CL an hN
  have B4:=zY (zY (zY (zY b1 b2) b3) b4) b4b
  have B5:Below (w.alloc qk).heap.size (w.alloc qk) w5:=zY (zY B4 (Below.new1 _)) b5
  have HG:w5.heap[w.heap.size]? =some (.cells #[.int .i64 0,.string ⟨#[]⟩,.slice none 0 0,.int .i64 0] 135):=ze B5
  obtain⟨⟨q0,q1,q2,q3⟩,f0,f1,f2,f3⟩:=q9 HG
  clear B4
  go_wp2_with fail
  (try simp only[Exit.inBlock,Exit.then])
  refine bodyPost_ret (v:= .tuple #[.agg #[.int .i64 2,.string ⟨#[]⟩,.slice u (kK true xs).length cu,.int .i64 0],.int .i64 ((n+2+1:Nat):Int)]) ?_ rfl ⟨_,_,rfl,.inr ⟨_,rfl,u,cu,rfl,Rs.set4 (zq HN) HG _ _ _ _⟩,?_⟩
  ·rw[results_cell_tmp rfl]
   go_simp
   omega
  ·exact set4 ((Below.new1 _).trans (B5.mono (by simp))) (Nat.le_refl _) _ _ _ _
 ·rw[if_neg c]
  rw[decide_eq_false c]at CB
  clear c
  go_enter Tryz.func138,Tryz.ntmps138
  go_wp2_with fail
  refine(zq CH _ (zq HB)).mono ?_
  rintro e w1 ⟨rfl,b1⟩
  have HB1:=zk (Bs.later (zq HB) b1 (Nat.le_refl _))
  clear CH HB
  go_wp2_with fail
  refine(zq CI _ (zq HB1)).mono ?_
  rintro e w2 ⟨v,rfl,o2,b2⟩
  obtain⟨x,cx,rfl,hR⟩:=Ow.rs o2 (zq ft)
  have HB2:=zk (Bs.later (zq HB1) b2 (Nat.le_refl _))
  have HR:=zk hR
  clear CI HB1 hR o2 ft
  go_wp2_with fail
  refine(zq CB _ (zq HB2)).mono ?_
  rintro e w3 ⟨rfl,b3⟩
  have HR3:=zk (Rs.later (zq HR) b3 (Nat.le_refl _))
  clear CB HR HB2
  clear CR HR3
  have B3:=zY (zY b1 b2) b3
  have HG:=ze B3
  obtain⟨⟨q0,q1,q2,q3⟩,f0,f1,f2,f3⟩:=q9 HG
  go_wp2_with fail
  (try simp only[Exit.inBlock,Exit.then])
  refine bodyPost_ret (v:= .tuple #[kY,.int .i64 (0:Nat)]) ?_ rfl ⟨_,_,rfl,.inl ⟨rfl,rfl,rfl⟩,?_⟩
  ·rw[results_cell_tmp rfl]
   go_simp
   try rfl
  ·exact set4 ((Below.new1 _).trans (B3.mono (by simp))) (Nat.le_refl _) _ _ _ _
theorem class_l (a:Option Addr) (len cap:Nat) (l:List Int) (w:World) (h:Bs w a len cap l) (hl:len≤100000) (hp:1≤len) (h0:l.getD 0 0=91):
  Calls Tryz.prog 138 #[.slice a len cap] w fun e w'=>∃v n,e= .returned (.tuple #[v,.int .i64 (n:Nat)])∧TokO w' v n (xJ l)∧Below w.heap.size w w':=by
 by_cases c:l.getD 1 0=94
 ·have hk:Zi l=1:=by unfold Zi;rw[if_pos c]
  have h2:2≤len:=by
   apply Classical.byContradiction
   intro cc
   have e:l.getD 1 0=0:=by simp[List.getD,List.getElem?_eq_none (show l.length≤1 by have:=h.hlen;omega)]
   omega
  exact class_1 a len cap l w h hl h2 h0 hk
 ·exact class_0 a len cap l w h hl hp h0 (by unfold Zi;rw[if_neg c])
def vw:Nat→List Int→List Int×Nat
 |0,_=>([],0)
 |f+1,r=>match qK r with
  |none=>([],0)
  |some (x,n)=>(x::(vw f (r.drop n)).1,n+(vw f (r.drop n)).2)
theorem pieceP_nil:qK []=none:=by decide
theorem pieceP_good {r:List Int} {x:Int} {n:Nat} (hb:U.zv r) (h:qK r=some (x,n)):(1≤n∧n≤r.length)∧0≤x∧x≤255:=by
 unfold qK at h
 split at h
 ·cases h
 ·exact⟨vy r x n hb h,piece_byte h⟩
theorem Yz:∀f,vw f []=([],0):=by
 intro f
 cases f with
 |zero=>rfl
 |succ f=>simp only[vw,pieceP_nil]
theorem pieces_fuel:∀(f g:Nat) (r:List Int),U.zv r→r.length≤f→r.length≤g→vw f r=vw g r:=by
 intro f
 induction f with
 |zero=>
  intro g r hb h1 h2
  have:r=[]:=List.eq_nil_of_length_eq_zero (by omega)
  subst this
  rw[Yz,Yz]
 |succ f ih=>
  intro g r hb h1 h2
  cases g with
  |zero=>
   have:r=[]:=List.eq_nil_of_length_eq_zero (by omega)
   subst this
   rw[Yz,Yz]
  |succ g=>
   simp only[vw]
   cases e:qK r with
   |none=>rfl
   |some p=>
    obtain⟨x,n⟩:=p
    have:=pieceP_good hb e
    simp only
    rw[ih g (r.drop n) (U.zZ hb n) (by rw[List.length_drop];omega) (by rw[List.length_drop];omega)]
def yX (r:List Int):List Int×Nat:=vw r.length r
theorem Yv {r:List Int} (h:qK r=none):yX r=([],0):=by
 unfold yX
 cases e:r.length with
 |zero=>rfl
 |succ f=>simp only[vw,h]
theorem pieces_yes {r:List Int} (hb:U.zv r) {x:Int} {n:Nat} (h:qK r=some (x,n)):yX r=(x::(yX (r.drop n)).1,n+(yX (r.drop n)).2):=by
 have hn:=pieceP_good hb h
 unfold yX
 obtain⟨k,hk⟩:∃k,r.length=k+1:=⟨r.length-1,by omega⟩
 rw[hk]
 simp only[vw,h]
 rw[pieces_fuel k (r.drop n).length (r.drop n) (U.zZ hb n) (by rw[List.length_drop];omega) (Nat.le_refl _)]
theorem pieces_gather:∀(f:Nat) (r:List Int),U.zv r→r.length≤f→
  yu jw 34 r=if (r.drop (yX r).2).getD 0 0=34 then some ((yX r).1,(yX r).2+1)else none:=by
 intro f
 induction f with
 |zero=>
  intro r hb h
  have:r=[]:=List.eq_nil_of_length_eq_zero (by omega)
  subst this
  rw[Yv pieceP_nil,jQ,if_neg (by simp[List.getD])]
 |succ f ih=>
  intro r hb h
  by_cases hr:r=[]
  ·subst hr
   rw[Yv pieceP_nil,jQ,if_neg (by simp[List.getD])]
  ·by_cases hst:r.getD 0 0=34
   ·rw[Yv (by unfold qK;rw[if_pos hst]),vi hr hst,List.drop_zero,if_pos hst]
   ·have epl:qK r=jw r:=by unfold qK;rw[if_neg hst]
    cases e:jw r with
    |none=>rw[Xz hr hst e,Yv (epl.trans e),List.drop_zero,if_neg hst]
    |some p=>
     obtain⟨x,n⟩:=p
     have hn:=vy r x n hb e
     rw[vo vy hb hr hst e,ih (r.drop n) (U.zZ hb n) (by rw[List.length_drop];omega),pieces_yes hb (epl.trans e),List.drop_drop]
     by_cases cc:(List.drop (n+(yX (r.drop n)).2) r).getD 0 0=34
     ·rw[if_pos cc,if_pos cc]
      simp only[Option.some.injEq,Prod.mk.injEq,true_and]
      omega
     ·rw[if_neg cc,if_neg cc]
theorem tok_lits {l:List Int} (hb:U.zv l) (h:l.getD 0 0=34):xJ l=if (yX (l.drop 1)).1≠[]∧(l.drop (1+(yX (l.drop 1)).2)).getD 0 0=34 then some ((1,(yX (l.drop 1)).1,[]),(yX (l.drop 1)).2+2)else none:=by
 unfold xJ
 rw[h,if_neg (by decide),if_neg (by omega),if_neg (by decide),if_pos rfl,pieces_gather _ _ (U.zZ hb 1) (Nat.le_refl _),List.drop_drop]
 by_cases c:(List.drop (1+(yX (l.drop 1)).2) l).getD 0 0=34
 ·rw[if_pos c]
  simp only
  by_cases c2:(yX (l.drop 1)).1=[]
  ·rw[if_pos c2,if_neg (fun x=>x.1 c2)]
  ·rw[if_neg c2,if_pos ⟨c2,c⟩]
 ·rw[if_neg c,if_neg (fun x=>c x.2)]
theorem st_quote:St ⟨#[34]⟩ [34]:=⟨rfl,by intro z hz;simp at hz;omega⟩
theorem lit_l (a:Option Addr) (len cap:Nat) (l:List Int) (w:World) (h:Bs w a len cap l) (hl:len≤100000) (hp:1≤len) (h0:l.getD 0 0=34):
  Calls Tryz.prog 137 #[.slice a len cap] w fun e w'=>∃v n,e= .returned (.tuple #[v,.int .i64 (n:Nat)])∧TokO w' v n (xJ l)∧Below w.heap.size w w':=by
 rw[tok_lits h.hbytes h0]
 generalize hO:(if (yX (l.drop 1)).1≠[]∧(l.drop (1+(yX (l.drop 1)).2)).getD 0 0=34 then some (((1,(yX (l.drop 1)).1,[]):Tk),(yX (l.drop 1)).2+2)else none)=O
 have HQ:=zk hO
 clear hO
 have hlen:=h.hlen
 have hcap:=h.hcap
 have HBB:=zk h.hbytes
 have HB:=zk (Bs.later h (Below.new1 qk) (Nat.le_refl _))
 obtain⟨ti,hi0,hz0,hz1,hz2⟩:=info_parts info_byte
 clear h h0
 unfold qk at HB
 have hw0:(w.alloc (.cells #[.int .i64 0,.string ⟨#[]⟩,.slice none 0 0,.int .i64 0] 135)).heap.size=w.heap.size+1:=by simp
 go_enter Tryz.func137,Tryz.ntmps137
 go_wp2_with fail
 generalize hW:w.alloc (.cells #[.int .i64 0,.string ⟨#[]⟩,.slice none 0 0,.int .i64 0] 135)=W0 at*
 go_loopw [4,5] (fun v j wr=>∃(k:Nat) (acc:List Int),1≤k∧k≤len∧acc.length≤k∧j= .int .i64 (k:Int)∧U.zv acc∧Hid (yX (l.drop 1)=(acc++(yX (l.drop k)).1,(k-1)+(yX (l.drop k)).2))∧wr.ownsRow W0.heap.size 5 1 v acc.length (acc.map (Value.int .u8))∧Below W0.heap.size W0 wr) (fun _ j _=>len-(intOf j).toNat)
 case atStart=>exact⟨1,[],Nat.le_refl _,hp,by simp,rfl,(fun z hz=>by cases hz),by show _=_;simp,World.ownsRow_nil _ _ _ _,Below.refl _ _⟩
 case round=>
  obtain⟨k,acc,hk1,hk,hok,rfl,hby,hg,hown,hb⟩:=hrel
  have hB:=Bs.later (zq HB) hb (Nat.le_refl _)
  have sl:=xk a len cap k k rfl hk
  have CP:=zk (piece_l _ _ _ _ wr (Bs.dropA hB k hk) (by omega))
  have HO:=zk hown
  have HBW:=zk hB
  have hws:=hb.size
  cases e1:qK (l.drop k)with
  |none=>
   have HG:Hid (yX (l.drop 1)=(acc,k-1)):=by
    show _=_
    rw[hg.out,Yv e1]
    simp
   rw[e1]at CP
   replace CP:Hid (Calls Tryz.prog 184 #[.slice (dropA a cap k) (len-k) (cap-k)] wr fun e w'=>e= .returned (.tuple #[.int .u8 0,.int .i64 0])∧Below wr.heap.size wr w'):=CP
   clear e1 hg HB hB hown HBB
   have HQ2:Hid ((if acc≠[]∧(l.drop k).getD 0 0=34 then some (((1,acc,[]):Tk),k-1+2)else none)=O):=by
    have:=zq HQ
    rw[zq HG]at this
    simp only at this
    rw[show 1+(k-1)=k by omega]at this
    exact this
   clear HQ
   by_cases ca:acc=[]
   ·subst ca
    have eO:O=none:=by rw[←zq HQ2,if_neg (fun x=>x.1 rfl)]
    have EO:=zk eO
    clear HQ2 eO
    obtain⟨p4,c4,e4,-⟩:=Bs.ofOwn hby (zq HO)
    simp only[List.length_nil]at e4
    clear HO
    subst e4
    go_wp2_with fail
    refine(zq CP).mono ?_
    rintro e w1 ⟨rfl,b1⟩
    clear CP
    have B3:=hb.trans (b1.mono hws)
    have HG2:w1.heap[w.heap.size]? =some (.cells #[.int .i64 0,.string ⟨#[]⟩,.slice none 0 0,.int .i64 0] 135):=by rw[←hW]at B3;exact ze B3
    have B4:Below w.heap.size w w1:=by rw[←hW]at B3;exact(Below.new1 _).trans (B3.mono (by simp))
    obtain⟨⟨q0,q1,q2,q3⟩,f0,f1,f2,f3⟩:=q9 HG2
    go_wp2_with fail
    (try simp only[Exit.inBlock,Exit.then])
    refine bodyPost_ret (v:= .tuple #[kY,.int .i64 (0:Nat)]) ?_ rfl ⟨_,_,rfl,.inl ⟨zq EO,rfl,rfl⟩,?_⟩
    ·rw[results_cell_tmp rfl]
     go_simp
     try rfl
    ·exact set4 B4 (Nat.le_refl _) _ _ _ _
   ·have hal:1≤acc.length:=by cases acc<;>simp_all
    have tl:((acc.length:Int)==0)=false:=beq_eq_false_iff_ne.2 (by omega)
    have t2:=kQ ((k:Int)+1) (by omega)
    have CB:=zk (fun W (hB:Bs W a len cap l)=>jK _ _ _ _ W (Bs.dropA hB k hk) ⟨#[34]⟩ [34] st_quote (by simp))
    rw[Zk (by omega)]at CB
    obtain⟨p4,c4,e4,-⟩:=Bs.ofOwn hby (zq HO)
    subst e4
    by_cases cq:(l.drop k).getD 0 0=34
    ·have eO:O=some ((1,acc,[]),k-1+2):=by rw[←zq HQ2,if_pos ⟨ca,cq⟩]
     have EO:=zk eO
     clear HQ2 eO
     rw[decide_eq_true cq]at CB
     clear cq ca
     go_wp2_with fail
     refine(zq CP).mono ?_
     rintro e w1 ⟨rfl,b1⟩
     have HB1:=zk (Bs.later (zq HBW) b1 (Nat.le_refl _))
     have HO1:=zk (j5 b1 (zq HO))
     clear CP HO HBW
     go_wp2_with fail
     refine(zq CB _ (zq HB1)).mono ?_
     rintro e w2 ⟨rfl,b2⟩
     have ho2:=j5 b2 (zq HO1)
     clear CB HO1 HB1
     have B3:=(hb.trans (b1.mono hws)).trans (b2.mono (by have:=b1.size;omega))
     have HG2:w2.heap[w.heap.size]? =some (.cells #[.int .i64 0,.string ⟨#[]⟩,.slice none 0 0,.int .i64 0] 135):=by rw[←hW]at B3;exact ze B3
     have B4:Below w.heap.size w w2:=by rw[←hW]at B3;exact(Below.new1 _).trans (B3.mono (by simp))
     obtain⟨⟨q0,q1,q2,q3⟩,f0,f1,f2,f3⟩:=q9 HG2
     obtain⟨p5,c5,e5,bs5⟩:=Bs.ofOwn hby ho2
     injection e5 with e6 e7 e8
     subst e6 e8
     have cv:=bs5.str
     have HT:=zk (fun(W:World)=>TokV.plain W 1 acc 0)
     clear ho2 bs5 hby
     generalize strOfNums acc=S at*
     go_wp2_with fail
     (try simp only[Exit.inBlock,Exit.then])
     refine bodyPost_ret (v:= .tuple #[.agg #[.int .i64 1,.string S,.slice none 0 0,.int .i64 0],.int .i64 ((k-1+2:Nat):Int)]) ?_ rfl ⟨_,_,rfl,.inr ⟨_,zq EO,zq HT _⟩,?_⟩
     ·rw[results_cell_tmp rfl]
      go_simp
      omega
     ·exact set4 B4 (Nat.le_refl _) _ _ _ _
    ·have eO:O=none:=by rw[←zq HQ2,if_neg (fun x=>cq x.2)]
     have EO:=zk eO
     clear HQ2 eO
     rw[decide_eq_false cq]at CB
     clear cq ca
     go_wp2_with fail
     refine(zq CP).mono ?_
     rintro e w1 ⟨rfl,b1⟩
     have HB1:=zk (Bs.later (zq HBW) b1 (Nat.le_refl _))
     clear CP HO HBW
     go_wp2_with fail
     refine(zq CB _ (zq HB1)).mono ?_
     rintro e w2 ⟨rfl,b2⟩
     clear CB HB1
     have B3:=(hb.trans (b1.mono hws)).trans (b2.mono (by have:=b1.size;omega))
     have HG2:w2.heap[w.heap.size]? =some (.cells #[.int .i64 0,.string ⟨#[]⟩,.slice none 0 0,.int .i64 0] 135):=by rw[←hW]at B3;exact ze B3
     have B4:Below w.heap.size w w2:=by rw[←hW]at B3;exact(Below.new1 _).trans (B3.mono (by simp))
     obtain⟨⟨q0,q1,q2,q3⟩,f0,f1,f2,f3⟩:=q9 HG2
     go_wp2_with fail
     (try simp only[Exit.inBlock,Exit.then])
     refine bodyPost_ret (v:= .tuple #[kY,.int .i64 (0:Nat)]) ?_ rfl ⟨_,_,rfl,.inl ⟨zq EO,rfl,rfl⟩,?_⟩
     ·rw[results_cell_tmp rfl]
      go_simp
      try rfl
     ·exact set4 B4 (Nat.le_refl _) _ _ _ _
  |some p=>
   obtain⟨z,n⟩:=p
   have gd:=pieceP_good (U.zZ (zq HBB) k) e1
   rw[List.length_drop]at gd
   have HG:Hid (yX (l.drop 1)=((acc++[z])++(yX (l.drop (k+n))).1,(k+n-1)+(yX (l.drop (k+n))).2)):=by
    show _=_
    rw[hg.out,pieces_yes (U.zZ (zq HBB) k) e1,List.drop_drop]
    simp only[List.append_assoc,List.singleton_append,Prod.mk.injEq,true_and]
    omega
   have hby2:U.zv (acc++[z]):=fun y hy=>by
    rcases List.mem_append.1 hy with h|h
    ·exact hby y h
    ·simp at h;subst h;omega
   rw[e1]at CP
   replace CP:Hid (Calls Tryz.prog 184 #[.slice (dropA a cap k) (len-k) (cap-k)] wr fun e w'=>e= .returned (.tuple #[.int .u8 z,.int .i64 (n:Int)])∧Below wr.heap.size wr w'):=CP
   have t0:((n:Int)==0)=false:=beq_eq_false_iff_ne.2 (by omega)
   clear e1 hg HB hB hown HBB HBW hby
   go_wp2_with fail
   refine(zq CP).mono ?_
   rintro e w1 ⟨rfl,b1⟩
   have own1:=j5 b1 (zq HO)
   have hb1:=hb.trans (b1.mono hws)
   have hs1:=hb1.size
   clear CP HO
   go_wp2_with (at_builtin;refine wpList_append_lies _ rfl _ _ 130 rfl W0.heap.size 5 ti _ 1 1 Tryz.underlying130 hi0 hz0 hz1 hz2 rfl (by omega) _ _ _ rfl (own1.alloc _) ⟨w1.heap.size,0,none⟩ 1 1 [.int .u8 z] rfl rfl (new_byte _ _ _ rfl) (by simp[Value.oneCell']) (by omega) (by unfold maxLen;omega) (by omega) (by simp;omega) (w1.heap.size+1) (by simp) ?_;intro gg cap1 w2 hown1 hgrow hat hlt1)
   go_roundw
   case rel=>exact⟨k+n,acc++[z],by omega,by omega,by simp;omega,by go_num,hby2,HG,by rw[u8_snoc,List.length_append];exact hown1,grow_b (own1.alloc _) (hb1.alloc hs1 _) (by simp;omega) hgrow⟩
   case measure=>simp[intOf];omega
def Mp (w:World) (b:Nat) (f:Int→Option Nat):Prop:=
 ∃es clock,w.heap[b]? =some (.map es clock)∧∀c:Int,(f c=none∧Instr.findNow (.int .u8) (.int .u8 c) es.toList 0=some none)∨∃g i,f c=some g∧Instr.findNow (.int .u8) (.int .u8 c) es.toList 0=some (some (i,.func (.func g) #[] #[]))
theorem find_app (kind:TypeDesc) (k:Value):∀(es:List MapEntry) (e:MapEntry) (n:Nat),Instr.findNow kind k (es++[e]) n=match Instr.findNow kind k es n with
  |some none=>Instr.findNow kind k [e] (n+es.length)
  |r=>r:=by
 intro es
 induction es with
 |nil=>intro e n;simp[Instr.findNow]
 |cons x t ih=>
  intro e n
  rw[List.cons_append]
  unfold Instr.findNow
  cases h:Instr.sameNow kind k x.key with
  |none=>rfl
  |some b=>
   cases b with
   |true=>rfl
   |false=>
    simp only
    rw[ih]
    cases h2:Instr.findNow kind k t (n+1)with
    |none=>rfl
    |some r=>
     cases r with
     |none=>
      simp only[List.length_cons]
      rw[show n+1+t.length=n+(t.length+1) by omega]
      unfold Instr.findNow
      rfl
     |some q=>rfl
theorem Mp.new (w:World):Mp (w.alloc (.map #[] 0)) w.heap.size (fun _=>none):=⟨#[],0,heap_alloc_new w _,fun c=> .inl ⟨rfl,rfl⟩⟩
def upd (f:Int→Option Nat) (c:Int) (g:Nat):Int→Option Nat:=fun x=>if x=c then some g else f x
theorem Mp.keep {w w':World} {b:Nat} {f:Int→Option Nat} (h:Mp w b f) (e:w'.heap[b]? =w.heap[b]?):Mp w' b f:=by
 obtain⟨es,clock,hb,hf⟩:=h
 exact⟨es,clock,e.trans hb,hf⟩
theorem Mp.later {w w':World} {b:Nat} {f:Int→Option Nat} (h:Mp w b f) (hb:Below w.heap.size w w'):Mp w' b f:=by
 obtain⟨es,clock,h1,hf⟩:=h
 exact⟨es,clock,(hb.block b (Array.getElem?_eq_some_iff.1 h1).1).trans h1,hf⟩
theorem Mp.lt {w:World} {b:Nat} {f:Int→Option Nat} (h:Mp w b f):b<w.heap.size:=by
 obtain⟨es,clock,h1,hf⟩:=h
 exact(Array.getElem?_eq_some_iff.1 h1).1
theorem ck_byte (e:Bool) (c:Int) (W:World):(Instr.checkKey e 10000 5 (.int .u8 c)).run Tryz.prog W= .ok () W:=by
 show(Instr.checkKey e (9999+1) 5 (.int .u8 c)).run Tryz.prog W= .ok () W
 rw[Instr.checkKey]
 simp[run_underlying Tryz.underlying5]
theorem Mp.put {w:World} {b:Nat} {f:Int→Option Nat} (h:Mp w b f) (c:Int) (g:Nat) (hc:f c=none):
  ∃w',(Instr.mapUpdate 131 (.map (some b)) (.int .u8 c) (.func (.func g) #[] #[])).run Tryz.prog w= .ok () w'∧Mp w' b (upd f c g)∧w'.heap.size=w.heap.size∧(∀k,k≠b→w'.heap[k]? =w.heap[k]?)∧w'.os=w.os∧w'.tape=w.tape∧w'.output=w.output:=by
 obtain⟨es,clock,hb,hf⟩:=h
 have hlt:=(Array.getElem?_eq_some_iff.1 hb).1
 have hnow:Instr.findNow (.int .u8) (.int .u8 c) es.toList 0=some none:=by
  rcases hf c with ⟨_,h⟩|⟨g',i,h,_⟩
  ·exact h
  ·rw[hc]at h;cases h
 refine⟨{w with heap:=w.heap.setIfInBounds b (.map (es.push {key:= .int .u8 c,val:= .func (.func g) #[] #[],born:=clock}) (clock+1))},?_,?_,by simp,fun k hk=>by simp[Array.getElem?_setIfInBounds,Ne.symm hk],rfl,rfl,rfl⟩
 ·simp[Instr.mapUpdate,run_underlying Tryz.underlying131,getObj,setObj,hb,ck_byte,run_underlying Tryz.underlying5,Instr.findKey,hnow,Sem.run]
 ·refine⟨es.push {key:= .int .u8 c,val:= .func (.func g) #[] #[],born:=clock},clock+1,by simp[Array.getElem?_setIfInBounds,hlt],fun x=> ?_⟩
  rw[Array.toList_push,find_app]
  unfold upd
  by_cases e:x=c
  ·subst e
   rw[hnow,if_pos rfl]
   exact .inr ⟨g,_,rfl,by simp[Instr.findNow,Instr.sameNow];rfl⟩
  ·rw[if_neg e]
   rcases hf x with ⟨h1,h2⟩|⟨g',i,h1,h2⟩
   ·refine .inl ⟨h1,?_⟩
    rw[h2]
    have:(x==c)=false:=beq_eq_false_iff_ne.2 e
    simp[Instr.findNow,Instr.sameNow,this]
   ·exact .inr ⟨g',i,h1,by rw[h2]⟩
theorem Mp.get {w:World} {b:Nat} {f:Int→Option Nat} (h:Mp w b f) (c:Int):
  (Instr.lookup 131 (.map (some b)) (.int .u8 c) true).run Tryz.prog w= .ok (.tuple #[match f c with|none=> .nilFunc|some g=> .func (.func g) #[] #[],.bool (f c).isSome]) w:=by
 obtain⟨es,clock,hb,hf⟩:=h
 have hz:(zeroValue 179).run Tryz.prog w= .ok .nilFunc w:=by kernel_rfl
 rcases hf c with ⟨h1,h2⟩|⟨g,i,h1,h2⟩
 ·simp[Instr.lookup,run_underlying Tryz.underlying131,getObj,hb,ck_byte,run_underlying Tryz.underlying5,Instr.findKey,h2,h1,hz,Sem.run]
 ·simp[Instr.lookup,run_underlying Tryz.underlying131,getObj,hb,ck_byte,run_underlying Tryz.underlying5,Instr.findKey,h2,h1,Sem.run]
end Go.Proofs.YtcblkmlcbedomaaGreatDoor.T
/- Contracts of package token: readers, and the token that a tail begins by. -/
namespace Go.Proofs.YtcblkmlcbedomaaGreatDoor.T
open Go.RowKit
def f4:Int→Option Nat:=upd (upd (upd (upd (fun _=>none) 64 136) 34 137) 91 138) 60 139
def fL (k:Nat):Int→Option Nat:=fun c=>if 97≤c∧c<97+(k:Int)then some 140 else f4 c
def fS (p:Nat):Int→Option Nat:=fun c=>if c∈signs.take p then some 141 else fL 26 c
theorem fL_zero:fL 0=f4:=by
 funext c
 unfold fL
 rw[if_neg (by omega)]
theorem fL_step (k:Nat):upd (fL k) (97+(k:Int)) 140=fL (k+1):=by
 funext c
 unfold upd fL
 by_cases h:c=97+(k:Int)
 ·rw[if_pos h,if_pos (by omega)]
 ·rw[if_neg h]
  by_cases h2:97≤c∧c<97+(k:Int)
  ·rw[if_pos h2,if_pos (by omega)]
  ·rw[if_neg h2,if_neg (by omega)]
theorem fL_new (k:Nat) (hk:k<26):fL k (97+(k:Int))=none:=by
 unfold fL f4 upd
 rw[if_neg (by omega),if_neg (by omega),if_neg (by omega),if_neg (by omega),if_neg (by omega)]
theorem fS_zero:fS 0=fL 26:=by
 funext c
 unfold fS
 rw[if_neg (by simp)]
theorem fS_step (p:Nat) (hp:p<10):upd (fS p) (signs.getD p 0) 141=fS (p+1):=by
 funext c
 have e:signs.take (p+1)=signs.take p++[signs.getD p 0]:=by
  have:∀q:Fin 10,signs.take (q.val+1)=signs.take q.val++[signs.getD q.val 0]:=by decide
  exact this ⟨p,hp⟩
 unfold upd fS
 rw[e]
 by_cases h:c=signs.getD p 0
 ·rw[if_pos h,if_pos (by rw[h];simp)]
 ·rw[if_neg h]
  by_cases h2:c∈signs.take p
  ·rw[if_pos h2,if_pos (List.mem_append_left _ h2)]
  ·rw[if_neg h2,if_neg (by intro x;rcases List.mem_append.1 x with x|x;exact h2 x;exact h (by simpa using x))]
theorem fS_new (p:Nat) (hp:p<10):fS p (signs.getD p 0)=none:=by
 have:∀q:Fin 10,fS q.val (signs.getD q.val 0)=none:=by decide
 exact this ⟨p,hp⟩
theorem next_sign {p:Nat} (h:p<10) (W:World) (k:Nat) (hk:W.heap[k]? =some (.stringIter ⟨#[61,124,59,40,41,42,43,63,47,37]⟩ p)):
  ∀ty,(Instr.next (.pointer (some ⟨k,0,none⟩)) true ty).run Tryz.prog W= .ok (.tuple #[.bool true,.int .i64 (p:Int),.int .i32 (signs.getD p 0)]) (W.iterAt k ⟨#[61,124,59,40,41,42,43,63,47,37]⟩ (p+1)):=by
 intro ty
 have key:∀n:Fin 10,(((⟨#[61,124,59,40,41,42,43,63,47,37]⟩:ByteArray)[n.val]'(by have:=n.isLt;exact this)).toNat<128):=by decide
 have val:∀n:Fin 10,((((⟨#[61,124,59,40,41,42,43,63,47,37]⟩:ByteArray)[n.val]'(by have:=n.isLt;exact this)).toNat:Int)=signs.getD n.val 0):=by decide
 have hk1:((⟨#[61,124,59,40,41,42,43,63,47,37]⟩:ByteArray)[p]'h).toNat<128:=key ⟨p,h⟩
 have hk2:(((⟨#[61,124,59,40,41,42,43,63,47,37]⟩:ByteArray)[p]'h).toNat:Int)=signs.getD p 0:=val ⟨p,h⟩
 rw[Lib.run_next_ascii_at W k _ p ty hk h hk1,hk2]
theorem sign_byte (p:Nat) (hp:p<10):IntKind.u8.wrap (signs.getD p 0)=signs.getD p 0:=by
 have:∀q:Fin 10,IntKind.u8.wrap (signs.getD q.val 0)=signs.getD q.val 0:=by decide
 exact this ⟨p,hp⟩
theorem iterAt_below {B:Nat} {w W:World} (h:Below B w W) {k:Nat} (hk:B≤k) (s:ByteArray) (p:Nat):Below B w (W.iterAt k s p):=Lib.below_iterAt h hk s p
theorem iterAt_other (W:World) (k b:Nat) (h:b≠k) (s:ByteArray) (p:Nat):(W.iterAt k s p).heap[b]? =W.heap[b]? :=by
 unfold World.iterAt
 simp[Array.getElem?_setIfInBounds,Ne.symm h]
theorem qJ {B:Nat} {w W W':World} (h:Below B w W) {b:Nat} (hb:B≤b) (s:W'.heap.size=W.heap.size) (o:∀k,k≠b→W'.heap[k]? =W.heap[k]?) (x1:W'.os=W.os) (x2:W'.tape=W.tape) (x3:W'.output=W.output):Below B w W':=
 ⟨x1.trans h.os,x2.trans h.tape,x3.trans h.output,by rw[s];exact h.size,fun k hk=>(o k (by omega)).trans (h.block k hk)⟩
theorem readers_l (w:World):
  Calls Tryz.prog 95 #[] w fun e w'=>∃b,e= .returned (.map (some b))∧Mp w' b (fS 10)∧Below w.heap.size w w':=by
 have hmm:= @run_makeMap Tryz.prog
 obtain⟨W1,r1,m1,s1,o1,x11,x12,x13⟩:=(Mp.new w).put 64 136 rfl
 obtain⟨W2,r2,m2,s2,o2,x21,x22,x23⟩:=m1.put 34 137 rfl
 obtain⟨W3,r3,m3,s3,o3,x31,x32,x33⟩:=m2.put 91 138 rfl
 obtain⟨W4,r4,m4,s4,o4,x41,x42,x43⟩:=m3.put 60 139 rfl
 have B0:Below w.heap.size w (w.alloc (.map #[] 0)):=Below.new1 _
 have B1:=qJ B0 (Nat.le_refl _) s1 o1 x11 x12 x13
 have B2:=qJ B1 (Nat.le_refl _) s2 o2 x21 x22 x23
 have B3:=qJ B2 (Nat.le_refl _) s3 o3 x31 x32 x33
 have B4:=zk (qJ B3 (Nat.le_refl _) s4 o4 x41 x42 x43)
 have M4:Hid (Mp W4 w.heap.size (fL 0)):=by rw[fL_zero];exact m4
 clear m1 m2 m3 m4 s1 s2 s3 s4 o1 o2 o3 o4 x11 x12 x13 x21 x22 x23 x31 x32 x33 x41 x42 x43 B0 B1 B2 B3
 go_enter Tryz.func95,Tryz.ntmps95
 go_wp2_with fail
 clear r1 r2 r3 r4 hmm
 go_loopw [2] (fun u wr=>∃k:Nat,k≤26∧u= .int .u8 (97+(k:Int))∧Hid (Mp wr w.heap.size (fL k))∧Hid (Below w.heap.size w wr)) (fun u _=>123-(intOf u).toNat)
 case atStart=>exact⟨0,by omega,rfl,M4,B4⟩
 case round=>
  obtain⟨k,hk,rfl,hm,hb⟩:=hrel
  clear M4 B4
  by_cases hlt:k<26
  ·have c1:97+(k:Int)≤122:=by omega
   obtain⟨W',r,m,s,o,x1,x2,x3⟩:=(zq hm).put (97+(k:Int)) 140 (fL_new k hlt)
   rw[fL_step]at m
   have M:=zk m
   have B:=zk (qJ (zq hb) (Nat.le_refl _) s o x1 x2 x3)
   clear m s o x1 x2 x3 hm hb
   go_wp2_with fail
   go_roundw
   case rel=>exact⟨k+1,by omega,by go_num,M,B⟩
   case measure=>simp[intOf];omega
  ·obtain rfl:k=26:=by omega
   have c1:¬97+((26:Nat):Int)≤122:=by omega
   have hlt2:=(zq hm).lt
   have hws:=(zq hb).size
   have M0:Hid (Mp (wr.iter ⟨#[61,124,59,40,41,42,43,63,47,37]⟩ 0) w.heap.size (fS 0)):=by
    rw[fS_zero]
    exact Mp.later (zq hm) (iter_below _ _ _)
   have B0:Hid (Below w.heap.size w (wr.iter ⟨#[61,124,59,40,41,42,43,63,47,37]⟩ 0)):=(zq hb).trans ((iter_below _ _ _).mono hws)
   have I0:Hid ((wr.iter ⟨#[61,124,59,40,41,42,43,63,47,37]⟩ 0).heap[wr.heap.size]? =some (.stringIter ⟨#[61,124,59,40,41,42,43,63,47,37]⟩ 0)):=World.iter_heap _ _ _
   clear hm hb
   go_wp2_with fail
   generalize hit:wr.heap.size=it at*
   generalize hwi:wr.iter ⟨#[61,124,59,40,41,42,43,63,47,37]⟩ 0=Wi at*
   clear hwi
   go_loopw [] (fun wx=>∃p:Nat,p≤10∧Hid (wx.heap[it]? =some (.stringIter ⟨#[61,124,59,40,41,42,43,63,47,37]⟩ p))∧Hid (Mp wx w.heap.size (fS p))∧Hid (Below w.heap.size w wx)) (fun wx=>10-wx.iterPos it)
   case atStart=>exact⟨0,by omega,I0,M0,B0⟩
   case round=>
    obtain⟨p,hp,hi,hm,hb⟩:=hrel
    clear I0 M0 B0
    by_cases hlt3:p<10
    ·have hne:w.heap.size≠it:=by omega
     have hn:=next_sign hlt3 wr it (zq hi)
     have I1:=Lib.iterAt_heap wr it ⟨#[61,124,59,40,41,42,43,63,47,37]⟩ p (p+1) (zq hi)
     have m1:=Mp.keep (zq hm) (iterAt_other wr it w.heap.size hne ⟨#[61,124,59,40,41,42,43,63,47,37]⟩ (p+1))
     have b1:=iterAt_below (zq hb) (k:=it) (by omega) ⟨#[61,124,59,40,41,42,43,63,47,37]⟩ (p+1)
     have q0:=iterPos_of (zq hi)
     obtain⟨W',r,m,s,o,x1,x2,x3⟩:=m1.put (signs.getD p 0) 141 (fS_new p hlt3)
     rw[fS_step p hlt3]at m
     have M:=zk m
     have I2:W'.heap[it]? =some (.stringIter ⟨#[61,124,59,40,41,42,43,63,47,37]⟩ (p+1)):=(o it (Ne.symm hne)).trans I1
     have q1:=iterPos_of I2
     have I:=zk I2
     have B:=zk (qJ b1 (Nat.le_refl _) s o x1 x2 x3)
     have t1:=sign_byte p hlt3
     clear m s o x1 x2 x3 hm hb m1 b1 hi I1 I2
     generalize wr.iterAt it ⟨#[61,124,59,40,41,42,43,63,47,37]⟩ (p+1)=V at*
     generalize signs.getD p 0=z at*
     go_wp2_with fail
     go_roundw
     case rel=>exact⟨p+1,by omega,I,M,B⟩
     case measure=>rw[q0,q1];omega
    ·obtain rfl:p=10:=by omega
     have hn:=fun ty=>Lib.run_next_end_at (P:=Tryz.prog) wr it ⟨#[61,124,59,40,41,42,43,63,47,37]⟩ 10 ty (zq hi) (by decide)
     clear hi
     go_wp2_with fail
     go_ret
     exact⟨_,rfl,zq hm,zq hb⟩
/-! ### The token that a tail begins by -/
theorem fS_let {c:Int} (h:xi c=true):fS 10 c=some 140:=by
 have hc:97≤c∧c≤122:=by simpa [xi] using h
 have hs:c∉signs.take 10:=by
  intro x
  have:∀z∈signs.take 10,z<97∨122<z:=by decide
  have:=this c x
  omega
 unfold fS fL
 rw[if_neg hs,if_pos (by omega)]
theorem fS_sign {c:Int} (h:c∈signs):fS 10 c=some 141:=by
 unfold fS
 rw[if_pos (by exact h)]
theorem fS_64:fS 10 64=some 136:=by decide
theorem fS_34:fS 10 34=some 137:=by decide
theorem fS_91:fS 10 91=some 138:=by decide
theorem fS_60:fS 10 60=some 139:=by decide
theorem fS_none {c:Int} (h1:xi c=false) (h2:c∉signs) (h3:c≠64) (h4:c≠34) (h5:c≠91) (h6:c≠60):fS 10 c=none:=by
 have hc:¬(97≤c∧c≤122):=by
  intro x
  have:xi c=true:=by simpa [xi] using x
  rw[h1]at this
  cases this
 unfold fS fL f4 upd
 rw[if_neg (by exact h2),if_neg (by omega),if_neg h6,if_neg h5,if_neg h4,if_neg h3]
theorem tok_none {l:List Int} (h1:xi (l.getD 0 0)=false) (h2:l.getD 0 0∉signs) (h3:l.getD 0 0≠64) (h4:l.getD 0 0≠34) (h5:l.getD 0 0≠91) (h6:l.getD 0 0≠60):xJ l=none:=by
 unfold xJ
 rw[h1,if_neg (by simp),if_neg h3,if_neg h2,if_neg h4,if_neg h6,if_neg h5]
def Reads (g:Nat) (a:Option Addr) (len cap:Nat) (l:List Int):Prop:=∀W,Bs W a len cap l→Calls Tryz.prog g #[.slice a len cap] W fun e w'=>∃v n,e= .returned (.tuple #[v,.int .i64 (n:Nat)])∧TokO w' v n (xJ l)∧Below W.heap.size W w'
theorem TokO.form {w:World} {v:Value} {n:Nat} {o:Option (Tk×Nat)} (h:TokO w v n o):∃k s p m c q,v= .agg #[.int .i64 k,.string s,.slice p m c,.int .i64 q]:=by
 rcases h with ⟨_,rfl,_⟩|⟨t,_,a,c,rfl,_⟩
 ·exact⟨_,_,_,_,_,_,rfl⟩
 ·exact⟨_,_,_,_,_,_,rfl⟩
theorem TokO.set4 {w:World} {v:Value} {n:Nat} {o:Option (Tk×Nat)} (h:TokO w v n o) {g:Nat} {cs:Array Value} (hg:w.heap[g]? =some (.cells cs 135)) (x0 x1 x2 x3:Value):
  TokO ((((w.setCell ⟨g,0,none⟩ x0).setCell ⟨g,1,none⟩ x1).setCell ⟨g,2,none⟩ x2).setCell ⟨g,3,none⟩ x3) v n o:=by
 rcases h with h|⟨t,e,a,c,rfl,hr⟩
 ·exact .inl h
 ·exact .inr ⟨t,e,a,c,rfl,Rs.set4 hr hg _ _ _ _⟩
theorem token_name (a:Option Addr) (len cap:Nat) (l:List Int) (w:World) (h:Bs w a len cap l) (hp:1≤len) (b:Nat) (hm:Mp w b (fS 10)) (hf:fS 10 (l.getD 0 0)=some 140) (hr:Reads 140 a len cap l):
  Calls Tryz.prog 97 #[.slice a len cap,.map (some b)] w fun e w'=>∃v n,e= .returned (.tuple #[v,.int .i64 (n:Nat)])∧TokO w' v n (xJ l)∧Below w.heap.size w w':=by
 have HB:=zk (Bs.later h (Below.new1 qk) (Nat.le_refl _))
 have lk:=(Mp.later hm (Below.new1 qk)).get (l.getD 0 0)
 rw[hf]at lk
 simp only[Option.isSome_some]at lk
 obtain⟨bb,off,rfl,hb⟩:=h.open (by omega)
 obtain⟨z,hz,z0,z1,cz⟩:=bat hb 0 (by omega)
 rw[Nat.add_zero]at cz
 rw[hz]at lk
 have cz1:(w.alloc qk).cell? ⟨bb,off,none⟩=some (.int .u8 z):=by rw[(Below.new1 (w:=w) qk).cell (zJ cz)];exact cz
 have CR:=zk hr
 unfold qk at*
 clear h hb hm hf hr hz cz
 go_enter Tryz.func97,Tryz.ntmps97
 go_wp2_with fail
 refine(zq CR _ (zq HB)).mono ?_
 rintro e w1 ⟨v,n,rfl,to,b1⟩
 obtain⟨k,s,p,m,c,q,rfl⟩:=to.form
 have HT:=zk to
 clear CR HB to
 have HG:=ze b1
 obtain⟨⟨q0,q1,q2,q3⟩,f0,f1,f2,f3⟩:=q9 HG
 go_wp2_with fail
 (try simp only[Exit.inBlock,Exit.then])
 refine bodyPost_ret (v:= .tuple #[.agg #[.int .i64 k,.string s,.slice p m c,.int .i64 q],.int .i64 (n:Nat)]) ?_ rfl ⟨_,_,rfl,TokO.set4 (zq HT) HG _ _ _ _,?_⟩
 ·rw[results_cell_tmp rfl]
  go_simp
 ·exact set4 ((Below.new1 _).trans (b1.mono (by simp))) (Nat.le_refl _) _ _ _ _
theorem token_sign (a:Option Addr) (len cap:Nat) (l:List Int) (w:World) (h:Bs w a len cap l) (hp:1≤len) (b:Nat) (hm:Mp w b (fS 10)) (hf:fS 10 (l.getD 0 0)=some 141) (hr:Reads 141 a len cap l):
  Calls Tryz.prog 97 #[.slice a len cap,.map (some b)] w fun e w'=>∃v n,e= .returned (.tuple #[v,.int .i64 (n:Nat)])∧TokO w' v n (xJ l)∧Below w.heap.size w w':=by
 have HB:=zk (Bs.later h (Below.new1 qk) (Nat.le_refl _))
 have lk:=(Mp.later hm (Below.new1 qk)).get (l.getD 0 0)
 rw[hf]at lk
 simp only[Option.isSome_some]at lk
 obtain⟨bb,off,rfl,hb⟩:=h.open (by omega)
 obtain⟨z,hz,z0,z1,cz⟩:=bat hb 0 (by omega)
 rw[Nat.add_zero]at cz
 rw[hz]at lk
 have cz1:(w.alloc qk).cell? ⟨bb,off,none⟩=some (.int .u8 z):=by rw[(Below.new1 (w:=w) qk).cell (zJ cz)];exact cz
 have CR:=zk hr
 unfold qk at*
 clear h hb hm hf hr hz cz
 go_enter Tryz.func97,Tryz.ntmps97
 go_wp2_with fail
 refine(zq CR _ (zq HB)).mono ?_
 rintro e w1 ⟨v,n,rfl,to,b1⟩
 obtain⟨k,s,p,m,c,q,rfl⟩:=to.form
 have HT:=zk to
 clear CR HB to
 have HG:=ze b1
 obtain⟨⟨q0,q1,q2,q3⟩,f0,f1,f2,f3⟩:=q9 HG
 go_wp2_with fail
 (try simp only[Exit.inBlock,Exit.then])
 refine bodyPost_ret (v:= .tuple #[.agg #[.int .i64 k,.string s,.slice p m c,.int .i64 q],.int .i64 (n:Nat)]) ?_ rfl ⟨_,_,rfl,TokO.set4 (zq HT) HG _ _ _ _,?_⟩
 ·rw[results_cell_tmp rfl]
  go_simp
 ·exact set4 ((Below.new1 _).trans (b1.mono (by simp))) (Nat.le_refl _) _ _ _ _
theorem token_mark (a:Option Addr) (len cap:Nat) (l:List Int) (w:World) (h:Bs w a len cap l) (hp:1≤len) (b:Nat) (hm:Mp w b (fS 10)) (hf:fS 10 (l.getD 0 0)=some 136) (hr:Reads 136 a len cap l):
  Calls Tryz.prog 97 #[.slice a len cap,.map (some b)] w fun e w'=>∃v n,e= .returned (.tuple #[v,.int .i64 (n:Nat)])∧TokO w' v n (xJ l)∧Below w.heap.size w w':=by
 have HB:=zk (Bs.later h (Below.new1 qk) (Nat.le_refl _))
 have lk:=(Mp.later hm (Below.new1 qk)).get (l.getD 0 0)
 rw[hf]at lk
 simp only[Option.isSome_some]at lk
 obtain⟨bb,off,rfl,hb⟩:=h.open (by omega)
 obtain⟨z,hz,z0,z1,cz⟩:=bat hb 0 (by omega)
 rw[Nat.add_zero]at cz
 rw[hz]at lk
 have cz1:(w.alloc qk).cell? ⟨bb,off,none⟩=some (.int .u8 z):=by rw[(Below.new1 (w:=w) qk).cell (zJ cz)];exact cz
 have CR:=zk hr
 unfold qk at*
 clear h hb hm hf hr hz cz
 go_enter Tryz.func97,Tryz.ntmps97
 go_wp2_with fail
 refine(zq CR _ (zq HB)).mono ?_
 rintro e w1 ⟨v,n,rfl,to,b1⟩
 obtain⟨k,s,p,m,c,q,rfl⟩:=to.form
 have HT:=zk to
 clear CR HB to
 have HG:=ze b1
 obtain⟨⟨q0,q1,q2,q3⟩,f0,f1,f2,f3⟩:=q9 HG
 go_wp2_with fail
 (try simp only[Exit.inBlock,Exit.then])
 refine bodyPost_ret (v:= .tuple #[.agg #[.int .i64 k,.string s,.slice p m c,.int .i64 q],.int .i64 (n:Nat)]) ?_ rfl ⟨_,_,rfl,TokO.set4 (zq HT) HG _ _ _ _,?_⟩
 ·rw[results_cell_tmp rfl]
  go_simp
 ·exact set4 ((Below.new1 _).trans (b1.mono (by simp))) (Nat.le_refl _) _ _ _ _
theorem token_lit (a:Option Addr) (len cap:Nat) (l:List Int) (w:World) (h:Bs w a len cap l) (hp:1≤len) (b:Nat) (hm:Mp w b (fS 10)) (hf:fS 10 (l.getD 0 0)=some 137) (hr:Reads 137 a len cap l):
  Calls Tryz.prog 97 #[.slice a len cap,.map (some b)] w fun e w'=>∃v n,e= .returned (.tuple #[v,.int .i64 (n:Nat)])∧TokO w' v n (xJ l)∧Below w.heap.size w w':=by
 have HB:=zk (Bs.later h (Below.new1 qk) (Nat.le_refl _))
 have lk:=(Mp.later hm (Below.new1 qk)).get (l.getD 0 0)
 rw[hf]at lk
 simp only[Option.isSome_some]at lk
 obtain⟨bb,off,rfl,hb⟩:=h.open (by omega)
 obtain⟨z,hz,z0,z1,cz⟩:=bat hb 0 (by omega)
 rw[Nat.add_zero]at cz
 rw[hz]at lk
 have cz1:(w.alloc qk).cell? ⟨bb,off,none⟩=some (.int .u8 z):=by rw[(Below.new1 (w:=w) qk).cell (zJ cz)];exact cz
 have CR:=zk hr
 unfold qk at*
 clear h hb hm hf hr hz cz
 go_enter Tryz.func97,Tryz.ntmps97
 go_wp2_with fail
 refine(zq CR _ (zq HB)).mono ?_
 rintro e w1 ⟨v,n,rfl,to,b1⟩
 obtain⟨k,s,p,m,c,q,rfl⟩:=to.form
 have HT:=zk to
 clear CR HB to
 have HG:=ze b1
 obtain⟨⟨q0,q1,q2,q3⟩,f0,f1,f2,f3⟩:=q9 HG
 go_wp2_with fail
 (try simp only[Exit.inBlock,Exit.then])
 refine bodyPost_ret (v:= .tuple #[.agg #[.int .i64 k,.string s,.slice p m c,.int .i64 q],.int .i64 (n:Nat)]) ?_ rfl ⟨_,_,rfl,TokO.set4 (zq HT) HG _ _ _ _,?_⟩
 ·rw[results_cell_tmp rfl]
  go_simp
 ·exact set4 ((Below.new1 _).trans (b1.mono (by simp))) (Nat.le_refl _) _ _ _ _
theorem token_class (a:Option Addr) (len cap:Nat) (l:List Int) (w:World) (h:Bs w a len cap l) (hp:1≤len) (b:Nat) (hm:Mp w b (fS 10)) (hf:fS 10 (l.getD 0 0)=some 138) (hr:Reads 138 a len cap l):
  Calls Tryz.prog 97 #[.slice a len cap,.map (some b)] w fun e w'=>∃v n,e= .returned (.tuple #[v,.int .i64 (n:Nat)])∧TokO w' v n (xJ l)∧Below w.heap.size w w':=by
 have HB:=zk (Bs.later h (Below.new1 qk) (Nat.le_refl _))
 have lk:=(Mp.later hm (Below.new1 qk)).get (l.getD 0 0)
 rw[hf]at lk
 simp only[Option.isSome_some]at lk
 obtain⟨bb,off,rfl,hb⟩:=h.open (by omega)
 obtain⟨z,hz,z0,z1,cz⟩:=bat hb 0 (by omega)
 rw[Nat.add_zero]at cz
 rw[hz]at lk
 have cz1:(w.alloc qk).cell? ⟨bb,off,none⟩=some (.int .u8 z):=by rw[(Below.new1 (w:=w) qk).cell (zJ cz)];exact cz
 have CR:=zk hr
 unfold qk at*
 clear h hb hm hf hr hz cz
 go_enter Tryz.func97,Tryz.ntmps97
 go_wp2_with fail
 refine(zq CR _ (zq HB)).mono ?_
 rintro e w1 ⟨v,n,rfl,to,b1⟩
 obtain⟨k,s,p,m,c,q,rfl⟩:=to.form
 have HT:=zk to
 clear CR HB to
 have HG:=ze b1
 obtain⟨⟨q0,q1,q2,q3⟩,f0,f1,f2,f3⟩:=q9 HG
 go_wp2_with fail
 (try simp only[Exit.inBlock,Exit.then])
 refine bodyPost_ret (v:= .tuple #[.agg #[.int .i64 k,.string s,.slice p m c,.int .i64 q],.int .i64 (n:Nat)]) ?_ rfl ⟨_,_,rfl,TokO.set4 (zq HT) HG _ _ _ _,?_⟩
 ·rw[results_cell_tmp rfl]
  go_simp
 ·exact set4 ((Below.new1 _).trans (b1.mono (by simp))) (Nat.le_refl _) _ _ _ _
theorem token_octets (a:Option Addr) (len cap:Nat) (l:List Int) (w:World) (h:Bs w a len cap l) (hp:1≤len) (b:Nat) (hm:Mp w b (fS 10)) (hf:fS 10 (l.getD 0 0)=some 139) (hr:Reads 139 a len cap l):
  Calls Tryz.prog 97 #[.slice a len cap,.map (some b)] w fun e w'=>∃v n,e= .returned (.tuple #[v,.int .i64 (n:Nat)])∧TokO w' v n (xJ l)∧Below w.heap.size w w':=by
 have HB:=zk (Bs.later h (Below.new1 qk) (Nat.le_refl _))
 have lk:=(Mp.later hm (Below.new1 qk)).get (l.getD 0 0)
 rw[hf]at lk
 simp only[Option.isSome_some]at lk
 obtain⟨bb,off,rfl,hb⟩:=h.open (by omega)
 obtain⟨z,hz,z0,z1,cz⟩:=bat hb 0 (by omega)
 rw[Nat.add_zero]at cz
 rw[hz]at lk
 have cz1:(w.alloc qk).cell? ⟨bb,off,none⟩=some (.int .u8 z):=by rw[(Below.new1 (w:=w) qk).cell (zJ cz)];exact cz
 have CR:=zk hr
 unfold qk at*
 clear h hb hm hf hr hz cz
 go_enter Tryz.func97,Tryz.ntmps97
 go_wp2_with fail
 refine(zq CR _ (zq HB)).mono ?_
 rintro e w1 ⟨v,n,rfl,to,b1⟩
 obtain⟨k,s,p,m,c,q,rfl⟩:=to.form
 have HT:=zk to
 clear CR HB to
 have HG:=ze b1
 obtain⟨⟨q0,q1,q2,q3⟩,f0,f1,f2,f3⟩:=q9 HG
 go_wp2_with fail
 (try simp only[Exit.inBlock,Exit.then])
 refine bodyPost_ret (v:= .tuple #[.agg #[.int .i64 k,.string s,.slice p m c,.int .i64 q],.int .i64 (n:Nat)]) ?_ rfl ⟨_,_,rfl,TokO.set4 (zq HT) HG _ _ _ _,?_⟩
 ·rw[results_cell_tmp rfl]
  go_simp
 ·exact set4 ((Below.new1 _).trans (b1.mono (by simp))) (Nat.le_refl _) _ _ _ _
theorem token_none (a:Option Addr) (len cap:Nat) (l:List Int) (w:World) (h:Bs w a len cap l) (hp:1≤len) (b:Nat) (hm:Mp w b (fS 10)) (hf:fS 10 (l.getD 0 0)=none) (ht:xJ l=none):
  Calls Tryz.prog 97 #[.slice a len cap,.map (some b)] w fun e w'=>∃v n,e= .returned (.tuple #[v,.int .i64 (n:Nat)])∧TokO w' v n (xJ l)∧Below w.heap.size w w':=by
 rw[ht]
 have lk:=(Mp.later hm (Below.new1 qk)).get (l.getD 0 0)
 rw[hf]at lk
 simp only[Option.isSome_none]at lk
 obtain⟨bb,off,rfl,hb⟩:=h.open (by omega)
 obtain⟨z,hz,z0,z1,cz⟩:=bat hb 0 (by omega)
 rw[Nat.add_zero]at cz
 rw[hz]at lk
 have cz1:(w.alloc qk).cell? ⟨bb,off,none⟩=some (.int .u8 z):=by rw[(Below.new1 (w:=w) qk).cell (zJ cz)];exact cz
 unfold qk at*
 clear h hb hm hf hz cz ht
 go_enter Tryz.func97,Tryz.ntmps97
 go_wp2_with fail
 (try simp only[Exit.inBlock,Exit.then])
 refine bodyPost_ret (v:= .tuple #[kY,.int .i64 (0:Nat)]) ?_ rfl ⟨_,_,rfl,.inl ⟨rfl,rfl,rfl⟩,?_⟩
 ·rw[results_cell_tmp rfl]
  go_simp
  try rfl
 ·exact Below.new1 _
theorem token_l (a:Option Addr) (len cap:Nat) (l:List Int) (w:World) (h:Bs w a len cap l) (hl:len≤100000) (hp:1≤len) (b:Nat) (hm:Mp w b (fS 10)):
  Calls Tryz.prog 97 #[.slice a len cap,.map (some b)] w fun e w'=>∃v n,e= .returned (.tuple #[v,.int .i64 (n:Nat)])∧TokO w' v n (xJ l)∧Below w.heap.size w w':=by
 cases h1:xi (l.getD 0 0)with
 |true=>exact token_name a len cap l w h hp b hm (fS_let h1) (fun W hB=>name_l a len cap l W hB (by omega) h1)
 |false=>
  by_cases h2:l.getD 0 0∈signs
  ·exact token_sign a len cap l w h hp b hm (fS_sign h2) (fun W hB=>ZW a len cap l W hB hp h2)
  ·by_cases h3:l.getD 0 0=64
   ·exact token_mark a len cap l w h hp b hm (by rw[h3];exact fS_64) (fun W hB=>mark_l a len cap l W hB (by omega) hp h3)
   ·by_cases h4:l.getD 0 0=34
    ·exact token_lit a len cap l w h hp b hm (by rw[h4];exact fS_34) (fun W hB=>lit_l a len cap l W hB hl hp h4)
    ·by_cases h5:l.getD 0 0=91
     ·exact token_class a len cap l w h hp b hm (by rw[h5];exact fS_91) (fun W hB=>class_l a len cap l W hB hl hp h5)
     ·by_cases h6:l.getD 0 0=60
      ·exact token_octets a len cap l w h hp b hm (by rw[h6];exact fS_60) (fun W hB=>octets_l a len cap l W hB hl hp h6)
      ·exact token_none a len cap l w h hp b hm (fS_none h1 h2 h3 h4 h5 h6) (tok_none h1 h2 h3 h4 h5 h6)
def xK:List Int→Nat
 | []=>0
 |z::t=>if Zw z then xK t+1 else 0
theorem skip_len:∀r:List Int,xK r≤r.length:=by
 intro r
 induction r with
 |nil=>simp[xK]
 |cons z t ih=>simp only[xK];split<;>simp<;>omega
theorem bl_byte:∀n:Fin 256,([32,9,10,13]:List UInt8).contains (UInt8.ofNat n.val)=Zw (n.val:Int):=by decide+kernel
theorem bl_byte' {z:Int} (h0:0≤z) (h1:z≤255):([32,9,10,13]:List UInt8).contains (UInt8.ofNat z.toNat)=Zw z:=by
 have:=bl_byte ⟨z.toNat,by omega⟩
 simp only[Int.toNat_of_nonneg h0]at this
 exact this
theorem trim_len:∀r:List Int,U.zv r→(Lib.trimLeftS (Lib.bytesOf r) [32,9,10,13]).length=r.length-xK r:=by
 intro r
 induction r with
 |nil=>intro _;rfl
 |cons z t ih=>
  intro hb
  have hz:=U.Y7 hb
  have:=ih (U.kJ hb)
  unfold Lib.trimLeftS Lib.bytesOf at*
  rw[List.map_cons,List.dropWhile_cons,bl_byte' hz.1 hz.2]
  simp only[xK,List.length_cons]
  cases h:Zw z with
  |true=>
   simp only[if_true]
   rw[this]
   omega
  |false=>
   simp
theorem tail_run8 (a:Option Addr) (len cap k:Nat) (i:Int) (hi:i=(k:Int)) (hk:k≤len):∀W,(Instr.slice 130 (.slice a len cap) (some (.int .i64 i)) none none).run Tryz.prog W= .ok (.slice (dropA a cap k) (len-k) (cap-k)) W:=by
 intro W
 subst hi
 have hu:Tryz.prog.underlying 130=some (.slice 5):=Tryz.underlying130
 unfold Instr.slice dropA
 simp[hu,run_underlying,Instr.sliceBounds,Instr.sliceBound,asIntOf,hk,Tryz.sizeOf5]
theorem trim_l (a:Option Addr) (len cap:Nat) (l:List Int) (w:World) (h:Bs w a len cap l):
  Calls Tryz.prog 142 #[.slice a len cap,.string ⟨#[32,9,10,13]⟩] w fun e w'=>(∃x c,e= .returned (.slice x (len-xK l) c))∧Below w.heap.size w w':=by
 have hm:=h.hmax
 unfold maxLen at hm
 have:=Any.bytes_TrimLeft_laid trimL_lays (by kernel_rfl) a len cap l ⟨#[32,9,10,13]⟩ w h.hlen h.hcap (by omega) (Bs.bytesIn h) (fun x hx=>by have:=h.hbytes x hx;omega) (by decide) (fun j b hb=>by have:=List.mem_of_getElem? hb;simp at this;rcases this with rfl|rfl|rfl|rfl<;>decide)
 have hl:=trim_len l h.hbytes
 have hs:=skip_len l
 rw[h.hlen]at hl hs
 refine Calls.mono this fun e w' hh=>⟨?_,hh.2⟩
 rw[hh.1]
 show∃x c,Ending.returned (Lib.leftV a len cap (len-(Lib.trimLeftS (Lib.bytesOf l) [32,9,10,13]).length))=_
 rw[hl,show len-(len-xK l)=xK l by omega]
 unfold Lib.leftV Lib.fromV
 split
 ·next c=>exact⟨none,0,by rw[c];simp⟩
 ·exact⟨_,_,rfl⟩
theorem blanks_l (a:Option Addr) (len cap:Nat) (l:List Int) (w:World) (h:Bs w a len cap l) (hl:len≤1000000) (k:Nat) (hk:k≤len):
  Calls Tryz.prog 96 #[.slice a len cap,.int .i64 k] w fun e w'=>e= .returned (.int .i64 ((k+xK (l.drop k):Nat):Int))∧Below w.heap.size w w':=by
 have hlen:=h.hlen
 have sl:=tail_run8 a len cap k k rfl hk
 have C:=zk (trim_l _ _ _ _ w (Bs.dropA h k hk))
 have hs:=skip_len (l.drop k)
 rw[List.length_drop]at hs
 clear h
 generalize xK (l.drop k)=m at*
 have t1:=kQ ((len:Int)-((len-k-m:Nat):Int)) (by omega)
 go_enter Tryz.func96,Tryz.ntmps96
 go_wp2_with fail
 refine(zq C).mono ?_
 rintro e w1 ⟨⟨x,c,rfl⟩,b1⟩
 clear C
 go_wp2_with fail
 go_ret
 exact⟨by show Ending.returned (Value.int .i64 _)=_;congr 2;omega,b1⟩
end Go.Proofs.YtcblkmlcbedomaaGreatDoor.T
/- Contracts of package token: All. -/
namespace Go.Proofs.YtcblkmlcbedomaaGreatDoor.T
open Go.RowKit
theorem all_skip:∀(r:List Int) (a c:Nat),U.zv r→j7 a c r=j7 (a+xK r) c (r.drop (xK r)):=by
 intro r
 induction r with
 |nil=>intro a c _;rfl
 |cons z t ih=>
  intro a c hb
  simp only[xK]
  cases h:Zw z with
  |false=>simp
  |true=>
   simp only[if_true]
   rw[all_blank hb (by simp) (by simpa using h),List.drop_succ_cons,List.drop_zero,List.drop_succ_cons,ih (a+1) c (U.kJ hb),show a+1+xK t=a+(xK t+1) by omega]
theorem skip_stop:∀r:List Int,r.drop (xK r)≠[]→Zw ((r.drop (xK r)).getD 0 0)=false:=by
 intro r
 induction r with
 |nil=>intro h;exact absurd rfl h
 |cons z t ih=>
  intro h
  simp only[xK]at*
  cases e:Zw z with
  |false=>simp[e]
  |true=>
   rw[e]at h
   simp only[if_true,List.drop_succ_cons]at h⊢
   exact ih h
/-! ### Tokens, one behind the other -/
def TkC (w:World):List (Tk×Nat)→List Value→Prop
 | [],cs=>cs=[]
 |(t,p)::ts,cs=>∃c0 c1 c2 c3 cs',cs=c0::c1::c2::c3::cs'∧TokV w (.agg #[c0,c1,c2,c3]) t p∧TkC w ts cs'
theorem TkC.mono {w w':World} (h:∀v t p,TokV w v t p→TokV w' v t p):∀(ts:List (Tk×Nat)) (cs:List Value),TkC w ts cs→TkC w' ts cs:=by
 intro ts
 induction ts with
 |nil=>intro cs hc;exact hc
 |cons x ts ih=>
  obtain⟨t,p⟩:=x
  intro cs hc
  obtain⟨c0,c1,c2,c3,cs',e,hv,hr⟩:=hc
  exact⟨c0,c1,c2,c3,cs',e,h _ _ _ hv,ih _ hr⟩
theorem TkC.later {w w':World} {ts:List (Tk×Nat)} {cs:List Value} (h:TkC w ts cs) (b:Below w.heap.size w w'):TkC w' ts cs:=TkC.mono (fun _ _ _ hv=>TokV.later hv b) ts cs h
theorem TkC.snoc {w:World} {t:Tk} {p:Nat} {c0 c1 c2 c3:Value} (hv:TokV w (.agg #[c0,c1,c2,c3]) t p):∀(ts:List (Tk×Nat)) (cs:List Value),TkC w ts cs→TkC w (ts++[(t,p)]) (cs++[c0,c1,c2,c3]):=by
 intro ts
 induction ts with
 |nil=>
  intro cs hc
  have:cs=[]:=hc
  subst this
  exact⟨c0,c1,c2,c3,[],rfl,hv,rfl⟩
 |cons x ts ih=>
  obtain⟨t',p'⟩:=x
  intro cs hc
  obtain⟨d0,d1,d2,d3,cs',e,hv',hr⟩:=hc
  exact⟨d0,d1,d2,d3,cs'++[c0,c1,c2,c3],by rw[e];rfl,hv',ih _ hr⟩
theorem own_ne {W:World} {base:Nat} {e:TypeId} {size:Nat} {v:Value} {n:Nat} {xs:List Value} (h:W.ownsRow base e size v n xs) {k:Nat} {cs:Array Value} {t:TypeId} {fr:Nat×Nat} (hk:W.heap[k]? =some (.cells cs t fr)) (ht:t≠e):some k≠v.ownBlock:=by
 rcases h.2 with ⟨rfl,_⟩|⟨g,cap,cur,rfl,_,hg,_⟩
 ·simp[Value.ownBlock]
 ·intro e'
  simp only[Value.ownBlock,Option.some.injEq]at e'
  subst e'
  rw[hk]at hg
  injection hg with hg
  injection hg with _ hg
  exact ht hg
theorem TokV.grown {W W':World} {base:Nat} {v:Value} {n:Nat} {xs:List Value} (ho:W.ownsRow base 135 4 v n xs) (hg:W.grownBy W' v.ownBlock) (u:Value) (t:Tk) (p:Int) (h:TokV W u t p):TokV W' u t p:=by
 obtain⟨a,c,e,hr,ht⟩:=h
 have key:∀b off,a=some ⟨b,off,none⟩→W'.heap[b]? =W.heap[b]? :=by
  intro b off e
  obtain⟨cs,fr,hk⟩:=ht b off e
  exact hg.block b (Array.getElem?_eq_some_iff.1 hk).1 (own_ne ho hk (by decide))
 refine⟨a,c,e,⟨hr.hlen,hr.hcap,hr.hmax,hr.hfit,fun i hi=> ?_⟩,fun b off e=> ?_⟩
 ·obtain⟨b,off,ha,hc,hd⟩:=hr.hcell i hi
  exact⟨b,off,ha,by rw[World.cell?_of_block (key b off ha)];exact hc,by rw[World.cell?_of_block (key b off ha)];exact hd⟩
 ·obtain⟨cs,fr,hk⟩:=ht b off e
  exact⟨cs,fr,(key b off e).trans hk⟩
theorem infoTok3:(Tryz.prog.info? 135).map (fun i=>(i.zero,i.size,i.bytes))=some (some (.agg #[.int .i64 0,.string ⟨#[]⟩,.slice none 0 0,.int .i64 0]),4,56):=by kernel_rfl
theorem new_tok (w:World) (n:Nat) (x0 x1 x2 x3:Value) (hn:n=w.heap.size):∀(j:Nat) (u:Value),[x0,x1,x2,x3][j]? =some u→(w.alloc (.cells #[x0,x1,x2,x3] 135)).cell? ((⟨n,0,none⟩:Addr).add j)=some u:=by
 subst hn
 exact World.news_of_block (cs:= #[x0,x1,x2,x3]) (t:=135) (fr:=(0,0)) (heap_alloc_new w _)
def Tks (w:World) (base:Nat) (v:Value) (ts:List (Tk×Nat)):Prop:=∃cs,w.ownsRow base 135 4 v ts.length cs∧TkC w ts cs
def AllR (w:World) (base:Nat) (l:List Int) (e:Ending):Prop:=
 (∃a er,kV l= .inl (a,er)∧e= .returned (.tuple #[.slice none 0 0,.int .i64 (a:Nat),.int .i64 er]))∨
 ∃ts v,kV l= .inr ts∧e= .returned (.tuple #[v,.int .i64 (l.length:Nat),.int .i64 0])∧Tks w base v ts
theorem all_l (s:ByteArray) (l:List Int) (h:St s l) (hl:l.length≤1000000) (w:World):
  Calls Tryz.prog 61 #[.string s] w fun e w'=>AllR w' w.heap.size l e∧Below w.heap.size w w':=by
 have hsz:=h.size
 have hbb:=h.2
 have kc:=fun W=>run_bytes_of_string (P:=Tryz.prog) W 9 130 5 s Tryz.underlying9 Tryz.underlying130 Tryz.underlying5
 by_cases hbig:3000<l.length
 ·have e:kV l= .inl (0,7):=by unfold kV;rw[if_pos hbig]
  have t1:(3000:Int)<(s.size:Int):=by omega
  have EQ:=zk e
  clear h kc hsz e
  go_enter Tryz.func61,Tryz.ntmps61
  go_wp2_with fail
  (try simp only[Exit.inBlock,Exit.then])
  refine bodyPost_ret (v:= .tuple #[.slice none 0 0,.int .i64 (0:Nat),.int .i64 7]) ?_ rfl ⟨.inl ⟨0,7,zq EQ,rfl⟩,Below.refl _ _⟩
  simp[results,Tryz.results61]
 ·have t1:(s.size:Int)≤3000:=by omega
  have BC:=zk (fun W fr=>bs_conv' W h (by unfold maxLen;omega) fr)
  have CBl:=zk (fun W x c (hB:Bs W x s.size c l) k (hk:k≤s.size)=>blanks_l x s.size c l W hB (by omega) k hk)
  have CT:=zk (fun W x c (hB:Bs W x s.size c l) k (hk:k<s.size) b (hm:Mp W b (fS 10))=>token_l _ _ _ _ W (Bs.dropA hB k (by omega)) (by omega) (by omega) b hm)
  have HL:=zk hsz
  have HBB:=zk hbb
  have AL:Hid (kV l=j7 0 600 l):=allL_is (by omega)
  have ssl:s.size≤3000:=by omega
  have t1b:decide ((3000:Int)<(s.size:Int))=false:=decide_eq_false (by omega)
  obtain⟨ti,hi0,hz0,hz1,hz2⟩:=info_parts infoTok3
  clear h hbig hsz hbb hl
  go_enter Tryz.func61,Tryz.ntmps61
  go_wp2_with fail
  have B0:=new_drew' (w:=w) (.cells (bytesRow s (grownCap w s.size 0 5)) 5 ((bytesRow s (grownCap w s.size 0 5)).size,(bytesRow s (grownCap w s.size 0 5)).size+1))
  have HB0:=zq BC w ((bytesRow s (grownCap w s.size 0 5)).size,(bytesRow s (grownCap w s.size 0 5)).size+1)
  clear BC kc
  generalize hW0:(w.alloc (.cells (bytesRow s (grownCap w s.size 0 5)) 5 ((bytesRow s (grownCap w s.size 0 5)).size,(bytesRow s (grownCap w s.size 0 5)).size+1))).drew=W0 at*
  clear hW0
  generalize grownCap w s.size 0 5=gc at*
  refine(readers_l _).mono ?_
  rintro e W1 ⟨mb,rfl,hm,b1⟩
  have HB1:=zk (Bs.later HB0 b1 (Nat.le_refl _))
  have HM1:=zk hm
  have HW1:=zk (zY B0 b1)
  clear HB0 hm b1 B0
  go_wp2_with fail
  have CB0:Hid (Calls Tryz.prog 96 #[.slice (some ⟨w.heap.size,0,none⟩) s.size gc,.int .i64 0] W1 fun e w'=>e= .returned (.int .i64 ((xK l:Nat):Int))∧Below W1.heap.size W1 w'):=by
   have:=zq CBl W1 _ gc (zq HB1) 0 (Nat.zero_le _)
   rw[List.drop_zero,Nat.zero_add]at this
   exact this
  refine(zq CB0).mono ?_
  rintro e W2 ⟨rfl,b2⟩
  have HB2:=zk (Bs.later (zq HB1) b2 (Nat.le_refl _))
  have HM2:=zk (Mp.later (zq HM1) b2)
  have HW2:=zk (zY (zq HW1) b2)
  have hs0:xK l≤s.size:=by rw[zq HL];exact skip_len l
  have A0:Hid (kV l=joinS [] (j7 (xK l) 600 (l.drop (xK l)))):=by
   show _=_
   rw[join_nil,zq AL,all_skip l 0 600 (zq HBB),Nat.zero_add]
  have S0:Hid (xK l<s.size→Zw (l.getD (xK l) 0)=false):=by
   intro hh
   have:=skip_stop l (drop_ne (by rw[←zq HL];exact hh))
   rw[ZK,Nat.add_zero]at this
   exact this
  clear CB0 HB1 HM1 HW1 b2 AL
  generalize xK l=k0 at*
  go_wp2_with fail
  go_loopw [7,8] (fun v j wr=>∃(k:Nat) (acc:List (Tk×Nat)) (cs:List Value),k≤s.size∧acc.length≤600∧j= .int .i64 (k:Int)∧Hid (kV l=joinS acc (j7 k (600-acc.length) (l.drop k)))∧Hid (k<s.size→Zw (l.getD k 0)=false)∧Hid (TkC wr acc cs)∧wr.ownsRow W2.heap.size 135 4 v acc.length cs∧Below W2.heap.size W2 wr) (fun _ j _=>s.size-(intOf j).toNat)
  case atStart=>exact⟨k0,[],[],hs0,by simp,rfl,A0,S0,rfl,World.ownsRow_nil _ _ _ _,Below.refl _ _⟩
  case round=>
   obtain⟨k,acc,cs,hk,hacc,rfl,hA,hS,hC,hown,hb⟩:=hrel
   have HBr:=zk (Bs.later (zq HB2) hb (Nat.le_refl _))
   have HMr:=zk (Mp.later (zq HM2) hb)
   have HO:=zk hown
   have hws:=hb.size
   have HBW:Hid (Below w.heap.size w wr):=zY (zq HW2) hb
   clear A0 S0 HM2 hs0
   by_cases hlt:k<s.size
   ·have hne:l.drop k≠[]:=drop_ne (by rw[←zq HL];exact hlt)
    have hbl:Zw ((l.drop k).getD 0 0)=false:=by rw[ZK,Nat.add_zero];exact zq hS hlt
    have sl:=tail_run8 (some ⟨w.heap.size,0,none⟩) s.size gc k k rfl (by omega)
    have C1:=zk (zq CT wr _ gc (zq HBr) k hlt mb (zq HMr))
    have hbd:=U.zZ (zq HBB) k
    cases et:xJ (l.drop k)with
    |none=>
     have EQ:Hid (kV l= .inl (k,2)):=by
      show _=_
      rw[hA.out,all_bad hne hbl et]
      rfl
     rw[et]at C1
     clear et hA hS CT CBl HL HBB hne hbl hbd HMr HBr hC hown HO
     go_wp2_with fail
     refine(zq C1).mono ?_
     rintro e w1 ⟨v,n,rfl,to,b1⟩
     have tn:v=kY∧n=0:=by
      rcases to with ⟨_,h2,h3⟩|⟨t,h2,_⟩
      ·exact⟨h2,h3⟩
      ·cases h2
     obtain⟨rfl,rfl⟩:=tn
     unfold kY
     clear C1 to
     go_wp2_with fail
     (try simp only[Exit.inBlock,Exit.then])
     refine bodyPost_ret (v:= .tuple #[.slice none 0 0,.int .i64 (k:Int),.int .i64 2]) ?_ rfl ⟨.inl ⟨k,2,zq EQ,rfl⟩,?_⟩
     ·simp[results,Tryz.results61]
     ·exact zY (zY (zq HBW) b1) (Below.new1 _)
    |some tp=>
     obtain⟨t,n⟩:=tp
     have gd:=(tok_ok hbd et).2
     rw[List.length_drop,←zq HL]at gd
     rw[et]at C1
     have t0:((n:Int)==0)=false:=beq_eq_false_iff_ne.2 (by omega)
     by_cases c6:acc.length=600
     ·have EQ:Hid (kV l= .inl (k,7)):=by
       show _=_
       rw[hA.out,c6,all_many hne hbl et]
       rfl
      obtain⟨p7,c7,e7⟩:=xu (zq HO)
      have t6:((acc.length:Int)==600)=true:=by rw[c6];rfl
      clear et hA hS CT CBl HL HBB hne hbl hbd HMr HBr hC hown HO c6
      subst e7
      go_wp2_with fail
      refine(zq C1).mono ?_
      rintro e w1 ⟨v,m,rfl,to,b1⟩
      obtain⟨x0,x1,x2,x3,x4,x5,rfl⟩:=to.form
      have tn:m=n:=by
       rcases to with ⟨h2,_⟩|⟨t',h2,_⟩
       ·cases h2
       ·injection h2 with h2;injection h2 with _ h2;exact h2.symm
      subst tn
      clear C1 to
      go_wp2_with fail
      (try simp only[Exit.inBlock,Exit.then])
      refine bodyPost_ret (v:= .tuple #[.slice none 0 0,.int .i64 (k:Int),.int .i64 7]) ?_ rfl ⟨.inl ⟨k,7,zq EQ,rfl⟩,?_⟩
      ·simp[results,Tryz.results61]
      ·exact zY (zY (zq HBW) b1) (Below.new1 _)
     ·have t6:((acc.length:Int)==600)=false:=beq_eq_false_iff_ne.2 (by omega)
      have hcap:=(zq HBr).hcap
      have hs2:=skip_len (l.drop (k+n))
      rw[List.length_drop,←zq HL]at hs2
      have AQ:Hid (kV l=joinS (acc++[(t,k)]) (j7 (k+n+xK (l.drop (k+n))) (600-(acc++[(t,k)]).length) (l.drop (k+n+xK (l.drop (k+n)))))):=by
       show _=_
       rw[hA.out,show 600-acc.length=(599-acc.length)+1 by omega,all_tok hbd hne hbl et,List.drop_drop,all_skip (l.drop (k+n)) (k+n) _ (U.zZ (zq HBB) (k+n)),List.drop_drop,List.length_append,List.length_singleton,show 600-(acc.length+1)=599-acc.length by omega]
       cases j7 (k+n+xK (l.drop (k+n))) (599-acc.length) (l.drop (k+n+xK (l.drop (k+n))))with
       |inl e=>rfl
       |inr e=>simp[joinS,consS]
      have SQ:Hid (k+n+xK (l.drop (k+n))<s.size→Zw (l.getD (k+n+xK (l.drop (k+n))) 0)=false):=by
       intro hh
       have:=skip_stop (l.drop (k+n)) (by rw[List.drop_drop];exact drop_ne (by rw[←zq HL];exact hh))
       rw[List.drop_drop,ZK,Nat.add_zero]at this
       exact this
      have t2:=kQ ((k:Int)+n) (by omega)
      obtain⟨p7,c7,e7⟩:=xu (zq HO)
      clear et hA hS CT HBB hne hbl hbd HMr hown
      subst e7
      go_wp2_with fail
      refine(zq C1).mono ?_
      rintro e w1 ⟨v,m,rfl,to,b1⟩
      have tn:m=n∧TokV w1 v t 0:=by
       rcases to with ⟨h2,_⟩|⟨t',h2,h3⟩
       ·cases h2
       ·injection h2 with h2;injection h2 with h2a h2b;subst h2a;exact⟨h2b.symm,h3⟩
      obtain⟨rfl,pa,pc,rfl,hr,hty⟩:=tn
      have HV:∀W,Below w1.heap.size w1 W→TokV W (.agg #[.int .i64 t.1,.string (strOfNums t.2.1),.slice pa t.2.2.length pc,.int .i64 (k:Int)]) t (k:Int):=fun W bw=>⟨pa,pc,rfl,hr.later bw (Nat.le_refl _),hty.later bw⟩
      have HVH:=zk HV
      have ho1:=j5 b1 (zq HO)
      have hC1:=zk (TkC.later (zq hC) b1)
      have hb1:=hb.trans (b1.mono hws)
      have hs1:=hb1.size
      have HB1:=zk (Bs.later (zq HBr) b1 (Nat.le_refl _))
      clear C1 to hr hty HV HO hC HBr
      generalize strOfNums t.2.1=S at*
      generalize t.1=K at*
      generalize t.2.2.length=rl at*
      go_wp2_with (at_builtin;refine wpList_append_lies _ rfl _ _ 94 rfl W2.heap.size 135 ti _ 4 56 Tryz.underlying94 hi0 hz0 hz1 hz2 rfl (by omega) _ _ _ rfl ((ho1.alloc _).alloc _) ⟨w1.heap.size+1,0,none⟩ 1 1 [.int .i64 K,.string S,.slice pa rl pc,.int .i64 (k:Int)] rfl rfl (new_tok _ _ _ _ _ _ (by simp)) (by simp[Value.oneCell']) (by omega) (by unfold maxLen;omega) (by omega) (by simp;omega) (w1.heap.size+2) (by simp) ?_;intro gg cap1 w2 hown1 hgrow hat hlt1)
      have hb2:Below W2.heap.size W2 w2:=hb1.trans (below_app2 ho1 hs1 hgrow)
      have TV:=TokV.grown ((ho1.alloc _).alloc _) hgrow
      have b12:Below w1.heap.size w1 ((w1.alloc (.cells #[.int .i64 K,.string S,.slice pa rl pc,.int .i64 (k:Int)] 135)).alloc (.cells #[.int .i64 K,.string S,.slice pa rl pc,.int .i64 (k:Int)] 135)):=(Below.new1 _).alloc (by simp) _
      have HC2:=zk (TkC.snoc (TV _ _ _ (zq HVH _ b12)) acc cs (TkC.mono TV acc cs (TkC.later (zq hC1) b12)))
      have C2:=zq CBl w2 _ gc (Bs.later (zq HB2) hb2 (Nat.le_refl _)) (k+m) (by omega)
      rw[show((k+m:Nat):Int)=(k:Int)+(m:Int) by omega]at C2
      have C2H:=zk C2
      have HO2:=zk hown1
      clear C2 TV b12 HVH hC1 hown1 hgrow hat hlt1 ho1 CBl HB1 HB2
      generalize xK (l.drop (k+m))=sk at*
      refine(zq C2H).mono ?_
      rintro e w3 ⟨rfl,b3⟩
      have HO3:=zk (j5 b3 (zq HO2))
      have HC3:=zk (TkC.later (zq HC2) b3)
      have hb3:=hb2.trans (b3.mono hb2.size)
      clear C2H HO2 HC2
      go_wp2_with fail
      go_roundw
      case rel=>exact⟨k+m+sk,acc++[(t,k)],_,by omega,by simp;omega,rfl,AQ,SQ,HC3,by rw[List.length_append];exact zq HO3,hb3⟩
      case measure=>simp[intOf];omega
   ·obtain rfl:k=s.size:=by omega
    have EQ:Hid (kV l= .inr acc):=by
     show _=_
     rw[hA.out,List.drop_of_length_le (by rw[←zq HL];omega),Yj]
     simp[joinS]
    have t9:¬((s.size:Int)<(s.size:Int)):=by omega
    clear hA hS CT CBl HBB HMr HBr hown
    go_wp2_with fail
    (try simp only[Exit.inBlock,Exit.then])
    refine bodyPost_ret (v:= .tuple #[u7,.int .i64 (l.length:Nat),.int .i64 0]) ?_ rfl ⟨.inr ⟨acc,u7,zq EQ,rfl,cs,own_mono (zq HO) (by have:=(zq HW2).size;omega),zq hC⟩,zq HBW⟩
    rw[←zq HL]
    simp[results,Tryz.results61]
/-! ### Literals -/
end Go.Proofs.YtcblkmlcbedomaaGreatDoor.T
/- Contracts of package token: written, and Same. -/
namespace Go.Proofs.YtcblkmlcbedomaaGreatDoor.T
open Go.RowKit
/-! ### Same -/
theorem str_eq_list {s u:ByteArray} {x y:List Int} (h:St s x) (k:St u y):(s.toList==u.toList)=decide (x=y):=by
 have key:s.toList=u.toList↔x=y:=by
  have h2:=st_list h y k.2
  have h3:=(st_list k y k.2).2 rfl
  rw[h3]
  exact h2
 by_cases e:x=y
 ·rw[decide_eq_true e,beq_iff_eq];exact key.2 e
 ·rw[decide_eq_false e,beq_eq_false_iff_ne];exact fun c=>e (key.1 c)
theorem ok_parts {t:Tk} (h:okT t):yQ t.1∧U.zv t.2.1:=by
 have hb:=(text_facts h).2.2
 obtain⟨k,x,R⟩:=t
 unfold okT at h
 unfold jz at hb
 simp only at*
 rcases h with ⟨rfl,_⟩|⟨rfl,_⟩|⟨rfl,_⟩|⟨rfl,_,h,_⟩|⟨rfl,rfl,_⟩|⟨rfl,rfl,_⟩
 ·exact⟨by unfold yQ;omega,hb⟩
 ·exact⟨by unfold yQ;omega,U.kJ hb⟩
 ·exact⟨by unfold yQ;omega,hb⟩
 ·exact⟨by unfold yQ;omega,h⟩
 ·exact⟨by unfold yQ;omega,fun z hz=>by cases hz⟩
 ·exact⟨by unfold yQ;omega,fun z hz=>by cases hz⟩
theorem allL_ok {s:List Int} (hb:U.zv s) {ts:List (Tk×Nat)} (h:kV s= .inr ts):∀p∈ts,okT p.1:=by
 by_cases c:s.length≤3000
 ·rw[allL_is c]at h
  exact all_ok _ _ _ _ _ hb (Nat.le_refl _) h
 ·unfold kV at h
  rw[if_pos (by omega)]at h
  cases h
end Go.Proofs.YtcblkmlcbedomaaGreatDoor.T
/- Contracts of package token: Text; the chapter's example. -/
namespace Go.Proofs.YtcblkmlcbedomaaGreatDoor.T
open Go.RowKit
/-! ### The example -/
end Go.Proofs.YtcblkmlcbedomaaGreatDoor.T
namespace Go.Proofs.YtcblkmlcbedomaaGreatDoor.R
open Go.RowKit Go.Proofs.YtcblkmlcbedomaaGreatDoor.T
/-! ### What stays but for one block -/
abbrev Bu (b:Nat) (w w':World):Prop:=w.grownBy w' (some b)
theorem Bu.refl (b:Nat) (w:World):Bu b w w:=⟨rfl,rfl,rfl,Nat.le_refl _,fun _ _ _=>rfl⟩
theorem Bu.then {b:Nat} {w w1 w2:World} (h:Bu b w w1) (k:Bu b w1 w2):Bu b w w2:=
 ⟨k.os.trans h.os,k.tape.trans h.tape,k.output.trans h.output,Nat.le_trans h.size k.size,fun i hi hn=>(k.block i (Nat.lt_of_lt_of_le hi h.size) hn).trans (h.block i hi hn)⟩
theorem Bu.of {b:Nat} {w w':World} (h:Below w.heap.size w w'):Bu b w w':=⟨h.os,h.tape,h.output,h.size,fun k hk _=>h.block k hk⟩
theorem Bu.set (b i:Nat) (w:World) (v:Value):Bu b w (w.setCell ⟨b,i,none⟩ v):=
 ⟨rfl,rfl,rfl,by simp,fun k _ hn=>Below.heap_setCell w ⟨b,i,none⟩ v k (fun e=>hn (by rw[e]))⟩
theorem Bu.at {b:Nat} {w w':World} (h:Bu b w w') {k:Nat} {o:Obj} (hk:w.heap[k]? =some o) (hn:k≠b):w'.heap[k]? =some o:=
 (h.block k (Array.getElem?_eq_some_iff.1 hk).1 (fun e=>hn (by injection e))).trans hk
theorem Bu.below {b:Nat} {w w':World} (h:Bu b w w') {B:Nat} (hB:B≤b) (hs:B≤w.heap.size):Below B w w':=
 ⟨h.os,h.tape,h.output,h.size,fun k hk=>h.block k (by omega) (fun e=>by injection e;omega)⟩
/-! ### Ranges and tokens that stay -/
theorem ty_ne {w:World} {a:Option Addr} (h:Ty w a) {b:Nat} {cs:Array Value} {t:TypeId} {fr:Nat×Nat} (hb:w.heap[b]? =some (.cells cs t fr)) (ht:t≠51) {g off:Nat} (e:a=some ⟨g,off,none⟩):g≠b:=by
 intro c
 subst c
 obtain⟨cs',fr',hk⟩:=h g off e
 rw[hb]at hk
 injection hk with hk
 injection hk with _ hk
 exact ht hk
theorem rs_kept {w w':World} {a:Option Addr} {len cap:Nat} {l:List (Int×Int)} (h:Rs w a len cap l) (k:∀g off,a=some ⟨g,off,none⟩→w'.heap[g]? =w.heap[g]?):Rs w' a len cap l:=by
 refine⟨h.hlen,h.hcap,h.hmax,h.hfit,fun i hi=> ?_⟩
 obtain⟨g,off,ha,hc,hd⟩:=h.hcell i hi
 exact⟨g,off,ha,by rw[World.cell?_of_block (k g off ha)];exact hc,by rw[World.cell?_of_block (k g off ha)];exact hd⟩
theorem ty_kept {w w':World} {a:Option Addr} (h:Ty w a) (k:∀g off,a=some ⟨g,off,none⟩→w'.heap[g]? =w.heap[g]?):Ty w' a:=by
 intro g off e
 obtain⟨cs,fr,hk⟩:=h g off e
 exact⟨cs,fr,(k g off e).trans hk⟩
theorem bu_ty {b:Nat} {w w':World} (h:Bu b w w') {cs:Array Value} {t:TypeId} {fr:Nat×Nat} (hb:w.heap[b]? =some (.cells cs t fr)) (ht:t≠51) {a:Option Addr} (hy:Ty w a):
  ∀g off,a=some ⟨g,off,none⟩→w'.heap[g]? =w.heap[g]? :=by
 intro g off e
 obtain⟨cs',fr',hk⟩:=hy g off e
 rw[hk]
 exact h.at hk (ty_ne hy hb ht e)
theorem tokv_bu {b:Nat} {w w':World} (h:Bu b w w') {cs:Array Value} {t:TypeId} {fr:Nat×Nat} (hb:w.heap[b]? =some (.cells cs t fr)) (ht:t≠51) {v:Value} {k:Tk} {p:Int} (hv:TokV w v k p):TokV w' v k p:=by
 obtain⟨a,c,e,hr,hy⟩:=hv
 have key:=bu_ty h hb ht hy
 exact⟨a,c,e,rs_kept hr key,ty_kept hy key⟩
/-! ### The reader -/
def Lf (w:World) (G:Nat) (v:Value) (r:List TN):Prop:=
 ∃off cap cur fr cs,v= .slice (some ⟨G,off,none⟩) r.length cap∧r.length≤cap∧cap≤maxLen∧w.heap[G]? =some (.cells cur 135 fr)∧(∀(j:Nat) (u:Value),cs[j]? =some u→cur[off+j]? =some u)∧TkC w r cs
theorem Lf.bu {b G:Nat} {w w':World} (h:Bu b w w') {cs:Array Value} {fr:Nat×Nat} (hb:w.heap[b]? =some (.cells cs 142 fr)) {v:Value} {r:List TN} (hl:Lf w G v r):Lf w' G v r:=by
 obtain⟨off,cap,cur,f,cs',e,h1,h2,h3,h4,h5⟩:=hl
 have hne:G≠b:=by
  intro c
  subst c
  rw[hb]at h3
  injection h3 with h3
  injection h3 with _ h3
  exact absurd h3 (by decide)
 exact⟨off,cap,cur,f,cs',e,h1,h2,h.at h3 hne,h4,TkC.mono (fun v t p hv=>tokv_bu h hb (by decide) hv) _ _ h5⟩
theorem Lf.later {G:Nat} {w w':World} (h:Below w.heap.size w w') {v:Value} {r:List TN} (hl:Lf w G v r):Lf w' G v r:=by
 obtain⟨off,cap,cur,f,cs',e,h1,h2,h3,h4,h5⟩:=hl
 exact⟨off,cap,cur,f,cs',e,h1,h2,(h.block G (Array.getElem?_eq_some_iff.1 h3).1).trans h3,h4,TkC.later h5 h⟩
theorem Lf.head {w:World} {G:Nat} {v:Value} {r:List TN} (h:Lf w G v r) (hne:r≠[]):
  ∃off cap a c,v= .slice (some ⟨G,off,none⟩) (r.tail.length+1) cap∧r.tail.length+1≤cap∧cap≤maxLen∧G<w.heap.size∧
   w.cell? ⟨G,off,none⟩=some (.int .i64 (kd r))∧w.cell? ⟨G,off+1,none⟩=some (.string (strOfNums (tx r)))∧w.cell? ⟨G,off+2,none⟩=some (.slice a (rg r).length c)∧w.cell? ⟨G,off+3,none⟩=some (.int .i64 (pl r:Nat))∧
   Rs w a (rg r).length c (rg r)∧Ty w a∧Lf w G (.slice (some ⟨G,off+4,none⟩) r.tail.length (cap-1)) r.tail:=by
 obtain⟨off,cap,cur,f,cs,e,h1,h2,h3,h4,h5⟩:=h
 cases r with
 |nil=>exact absurd rfl hne
 |cons x r=>
  obtain⟨t,p⟩:=x
  obtain⟨c0,c1,c2,c3,cs',rfl,⟨a,c,hv,hr,hy⟩,h6⟩:=h5
  simp only[Value.agg.injEq,Array.mk.injEq,List.cons.injEq,and_true]at hv
  obtain⟨rfl,rfl,rfl,rfl⟩:=hv
  have hlt:=(Array.getElem?_eq_some_iff.1 h3).1
  refine⟨off,cap,a,c,e,h1,h2,hlt,?_,?_,?_,?_,hr,hy,off+4,cap-1,cur,f,cs',rfl,?_,?_,h3,?_,h6⟩
  ·have:=h4 0 _ rfl
   rw[Nat.add_zero]at this
   simp[World.cell?,h3,this,kd,hd]
  ·simp[World.cell?,h3,h4 1 _ rfl,tx,hd]
  ·simp[World.cell?,h3,h4 2 _ rfl,rg,hd]
  ·simp[World.cell?,h3,h4 3 _ rfl,pl,hd]
  ·simp at h1⊢;omega
  ·omega
  ·intro j u hu
   rw[show off+4+j=off+(j+4) by omega]
   exact h4 (j+4) u (by simpa using hu)
def Rd (w:World) (b G:Nat) (r:List TN) (m:Nat) (d:Int):Prop:=
 ∃v,w.heap[b]? =some (.cells #[v,.map (some m),.int .i64 d] 142)∧Lf w G v r
theorem Rd.later {w w':World} {b G:Nat} {r:List TN} {m:Nat} {d:Int} (h:Rd w b G r m d) (hb:Below w.heap.size w w'):Rd w' b G r m d:=by
 obtain⟨v,h1,h2⟩:=h
 exact⟨v,(hb.block b (Array.getElem?_eq_some_iff.1 h1).1).trans h1,Lf.later hb h2⟩
theorem Rd.lt {w:World} {b G:Nat} {r:List TN} {m:Nat} {d:Int} (h:Rd w b G r m d):b<w.heap.size:=by
 obtain⟨v,h1,h2⟩:=h
 exact(Array.getElem?_eq_some_iff.1 h1).1
theorem Rd.ltG {w:World} {b G:Nat} {r:List TN} {m:Nat} {d:Int} (h:Rd w b G r m d):G<w.heap.size:=by
 obtain⟨v,-,off,cap,cur,f,cs',e,h1,h2,h3,h4,h5⟩:=h
 exact(Array.getElem?_eq_some_iff.1 h3).1
theorem Rd.kept {w X:World} {b G:Nat} {r:List TN} {m:Nat} {d:Int} (h:Rd w b G r m d) (hb:X.heap[b]? =w.heap[b]?) (hG:X.heap[G]? =w.heap[G]?) (k:∀(g:Nat) (cs:Array Value) (fr:Nat×Nat),w.heap[g]? =some (.cells cs 51 fr)→X.heap[g]? =some (.cells cs 51 fr)):Rd X b G r m d:=by
 obtain⟨v,h0,off,cap,cur,f,cs',e,h1,h2,h3,h4,h5⟩:=h
 refine⟨v,hb.trans h0,off,cap,cur,f,cs',e,h1,h2,hG.trans h3,h4,TkC.mono (fun v t p hv=> ?_) _ _ h5⟩
 obtain⟨a,c,e,hr,hy⟩:=hv
 have key:∀g off,a=some ⟨g,off,none⟩→X.heap[g]? =w.heap[g]? :=fun g off e=>by
  obtain⟨cs,fr,hk⟩:=hy g off e
  rw[hk]
  exact k g cs fr hk
 exact⟨a,c,e,rs_kept hr key,ty_kept hy key⟩
theorem jJ {W:World} {g:Nat} {x0 x1 x2:Value} {t:TypeId} (h:W.heap[g]? =some (.cells #[x0,x1,x2] t)):
  (W.cell? ⟨g,0,none⟩=some x0∧W.cell? ⟨g,1,none⟩=some x1∧W.cell? ⟨g,2,none⟩=some x2)∧
  (W.frozen? ⟨g,0,none⟩=false∧W.frozen? ⟨g,1,none⟩=false∧W.frozen? ⟨g,2,none⟩=false):=by
 refine⟨⟨?_,?_,?_⟩,?_,?_,?_⟩<;>simp[World.cell?,World.frozen?,h]
def TkR (w:World) (v:Value) (r:List TN):Prop:=∃a c,v= .agg #[.int .i64 (kd r),.string (strOfNums (tx r)),.slice a (rg r).length c,.int .i64 (pl r:Nat)]∧Rs w a (rg r).length c (rg r)∧Ty w a
theorem next_l (w:World) (b G:Nat) (r:List TN) (m:Nat) (d:Int) (h:Rd w b G r m d) (hne:r≠[]):
  Calls Tryz.prog 152 #[.pointer (some ⟨b,0,none⟩)] w fun e w'=>∃v,e= .returned v∧TkR w' v r∧Below w.heap.size w w':=by
 obtain⟨v,h1,h2⟩:=h
 obtain⟨off,cap,a,c,rfl,l1,l2,lt,c0,c1,c2,c3,hr,hy,-⟩:=h2.head hne
 have hbl:=(Array.getElem?_eq_some_iff.1 h1).1
 have HB:∀o,Below w.heap.size w (w.alloc o):=fun o=>Below.new1 o
 have k0:∀o,(w.alloc o).cell? ⟨G,off,none⟩=some (.int .i64 (kd r)):=fun o=>((HB o).cell (zJ c0)).trans c0
 have k1:∀o,(w.alloc o).cell? ⟨G,off+1,none⟩=some (.string (strOfNums (tx r))):=fun o=>((HB o).cell (zJ c1)).trans c1
 have k2:∀o,(w.alloc o).cell? ⟨G,off+2,none⟩=some (.slice a (rg r).length c):=fun o=>((HB o).cell (zJ c2)).trans c2
 have k3:∀o,(w.alloc o).cell? ⟨G,off+3,none⟩=some (.int .i64 (pl r:Nat)):=fun o=>((HB o).cell (zJ c3)).trans c3
 have q0:∀o,(w.alloc o).cell? ⟨b,0,none⟩=some (.slice (some ⟨G,off,none⟩) (r.tail.length+1) cap):=fun o=>((HB o).cell hbl).trans (jJ h1).1.1
 have HR:=zk hr
 have HY:=zk hy
 clear h1 h2 c0 c1 c2 c3 hr hy HB
 unfold maxLen at l2
 generalize hS:strOfNums (tx r)=S at*
 have HS:=zk hS
 clear hS
 generalize hn:(rg r).length=n at*
 have HN:=zk hn
 clear hn
 go_enter Tryz.func152,Tryz.ntmps152
 go_wp2_with fail
 (try simp only[Exit.inBlock,Exit.then])
 refine bodyPost_ret (v:= .agg #[.int .i64 (kd r),.string S,.slice a n c,.int .i64 (pl r:Nat)]) ?_ rfl ⟨_,rfl,?_,?_⟩
 ·simp[results,Tryz.results152,go_sem]
 ·exact⟨a,c,by rw[zq HS,zq HN],by rw[zq HN];exact(zq HR).later (Below.new1 _) (Nat.le_refl _),(zq HY).later (Below.new1 _)⟩
 ·exact Below.new1 _
end Go.Proofs.YtcblkmlcbedomaaGreatDoor.R
namespace Go.Proofs.YtcblkmlcbedomaaGreatDoor.T
open Go.RowKit
theorem tks_form {w:World} {base:Nat} {v:Value} {ts:List (Tk×Nat)} (h:Tks w base v ts):∃p c,v= .slice p ts.length c:=by
 obtain⟨cs,ho,-⟩:=h
 obtain⟨p,c,e⟩:=xu ho
 exact⟨p,c,e⟩
theorem je {W V X:World} (b:Below W.heap.size W X) (e:V.heap=W.heap) {g o:Nat} {v:Value} (h:V.cell? ⟨g,o,none⟩=some v):X.cell? ⟨g,o,none⟩=some v:=by
 have h':W.cell? ⟨g,o,none⟩=some v:=by
  unfold World.cell? at*
  rw[←e]
  exact h
 exact(b.cell (zJ h')).trans h'
theorem all_huge (s:ByteArray) (l:List Int) (h:St s l) (hbig:3000<l.length) (w:World):
  Calls Tryz.prog 61 #[.string s] w fun e w'=>AllR w' w.heap.size l e∧Below w.heap.size w w':=by
 have hsz:=h.size
 have e:kV l= .inl (0,7):=by unfold kV;rw[if_pos hbig]
 have t1:(3000:Int)<(s.size:Int):=by omega
 have EQ:=zk e
 clear h hsz e
 go_enter Tryz.func61,Tryz.ntmps61
 go_wp2_with fail
 (try simp only[Exit.inBlock,Exit.then])
 refine bodyPost_ret (v:= .tuple #[.slice none 0 0,.int .i64 (0:Nat),.int .i64 7]) ?_ rfl ⟨.inl ⟨0,7,zq EQ,rfl⟩,Below.refl _ _⟩
 simp[results,Tryz.results61]
theorem all_any (s:ByteArray) (l:List Int) (h:St s l) (w:World):
  Calls Tryz.prog 61 #[.string s] w fun e w'=>AllR w' w.heap.size l e∧Below w.heap.size w w':=by
 by_cases hl:l.length≤1000000
 ·exact all_l s l h hl w
 ·exact all_huge s l h (by omega) w
theorem two_new {w w1:World} {o1 o2:Obj} (b:Below ((w.alloc o1).alloc o2).heap.size ((w.alloc o1).alloc o2) w1):w1.heap[w.heap.size]? =some o1∧w1.heap[w.heap.size+1]? =some o2:=
 ⟨ze (zY (Below.new1 _) b),by have:=ze b;simpa using this⟩
theorem b2_of {w w1:World} {o1 o2:Obj} (b:Below ((w.alloc o1).alloc o2).heap.size ((w.alloc o1).alloc o2) w1):Below w.heap.size w w1:=zY (zY (Below.new1 _) (Below.new1 _)) b
end Go.Proofs.YtcblkmlcbedomaaGreatDoor.T
namespace Go.Proofs.YtcblkmlcbedomaaGreatDoor.R
open Go.RowKit Go.Proofs.YtcblkmlcbedomaaGreatDoor.T
def lk (r:List TN):Int×List Int:=(kd r,if kd r=4 then tx r else [])
def lookV (k:Int) (x:List Int):Value:= .agg #[.int .i64 k,.string (strOfNums x)]
theorem Y2 (r:List TN) (c:Int):decide (lk r=(4,[c]))=isS r c:=by
 unfold lk isS
 by_cases h:kd r=4
 ·simp[h]
 ·simp[h]
theorem Y5 (r:List TN) (k:Int) (h:k≠4):decide (lk r=(k,[]))=decide (kd r=k):=by
 unfold lk
 by_cases e:kd r=k
 ·rw[e];simp[h]
 ·simp[e]
theorem yk {W:World} {g:Nat} {x0 x1:Value} {t:TypeId} (h:W.heap[g]? =some (.cells #[x0,x1] t)):
  (W.cell? ⟨g,0,none⟩=some x0∧W.cell? ⟨g,1,none⟩=some x1)∧(W.frozen? ⟨g,0,none⟩=false∧W.frozen? ⟨g,1,none⟩=false):=by
 refine⟨⟨?_,?_⟩,?_,?_⟩<;>simp[World.cell?,World.frozen?,h]
theorem set2 {B:Nat} {a w:World} (h:Below B a w) {g:Nat} (hg:B≤g) (x0 x1:Value):Below B a ((w.setCell ⟨g,0,none⟩ x0).setCell ⟨g,1,none⟩ x1):=
 Below.setCell (Below.setCell h (show B≤(⟨g,0,none⟩:Addr).block from hg) _) (show B≤(⟨g,1,none⟩:Addr).block from hg) _
theorem ZW (S:ByteArray) (w:World):
  Calls Tryz.prog 147 #[.string S] w fun e w'=>e= .returned (.agg #[.int .i64 4,.string S])∧Below w.heap.size w w':=by
 go_enter Tryz.func147,Tryz.ntmps147
 go_wp2_with fail
 (try simp only[Exit.inBlock,Exit.then])
 refine bodyPost_ret (v:= .agg #[.int .i64 4,.string S]) ?_ rfl ⟨rfl,?_⟩
 ·simp[results,Tryz.results147,go_sem]
 ·exact Below.new1 _
theorem lookOf_l (k:Int) (S:ByteArray) (a:Option Addr) (n c:Nat) (q:Int) (w:World):
  Calls Tryz.prog 151 #[.agg #[.int .i64 k,.string S,.slice a n c,.int .i64 q]] w fun e w'=>e= .returned (.agg #[.int .i64 k,.string (if k=4 then S else ⟨#[]⟩)])∧Below w.heap.size w w':=by
 by_cases hk:k=4
 ·subst hk
  rw[if_pos rfl]
  have C:=zk (fun W=>ZW S W)
  go_enter Tryz.func151,Tryz.ntmps151
  go_wp2_with fail
  refine(zq C _).mono ?_
  rintro e w1 ⟨rfl,b1⟩
  clear C
  obtain⟨g1,g2⟩:=two_new b1
  obtain⟨⟨y0,y1⟩,z0,z1⟩:=yk g2
  go_wp2_with fail
  (try simp only[Exit.inBlock,Exit.then])
  refine bodyPost_ret (v:= .agg #[.int .i64 4,.string S]) ?_ rfl ⟨rfl,?_⟩
  ·simp[results,Tryz.results151,go_sem,y0,y1]
  ·exact set2 (b2_of b1) (by simp) _ _
 ·rw[if_neg hk]
  have n4:(k==4)=false:=beq_eq_false_iff_ne.2 hk
  go_enter Tryz.func151,Tryz.ntmps151
  go_wp2_with fail
  (try simp only[Exit.inBlock,Exit.then])
  refine bodyPost_ret (v:= .agg #[.int .i64 k,.string ⟨#[]⟩]) ?_ rfl ⟨rfl,?_⟩
  ·simp[results,Tryz.results151,go_sem]
  ·exact(Below.new1 _).alloc (by simp) _
theorem eqlLk (k k2:Int) (S S2:ByteArray) (w:World):(binOp .eql 146 (.agg #[.int .i64 k,.string S]) (.agg #[.int .i64 k2,.string S2])).run Tryz.prog w= .ok (.bool (k==k2&&S.toList==S2.toList)) w:=by
 have u3:=Tryz.underlying3
 have a3:=Tryz.isAgg3
 have z3:=Tryz.sizeOf3
 have u9:=Tryz.underlying9
 have a9:=Tryz.isAgg9
 have z9:=Tryz.sizeOf9
 have hS:Tryz.prog.underlying 146=some (.struct (Tryz.prog.fieldsOf 146)):=by kernel_rfl
 have hp:Tryz.prog.stoodInHeld 146=false:=by kernel_rfl
 rw[run_eql_struct,show(10000:Nat)=9999+1 from rfl,run_equalIn_agg w 9999 146 _ _ hS hp]
 simp only[Program.fieldsOf,Tryz.underlying146]
 go_simp
 by_cases h1:k=k2
 ·by_cases h2:S.toList=S2.toList<;>simp[h1,h2]
 ·simp[h1]
theorem look_eq {k k2:Int} {x y:List Int} (hx:U.zv x) (hy:U.zv y):(k==k2&&(strOfNums x).toList==(strOfNums y).toList)=decide ((k,x)=(k2,y)):=by
 rw[str_eq_list (St.of hx) (St.of hy)]
 by_cases h1:k=k2<;>by_cases h2:x=y<;>simp[h1,h2]
theorem lk_str (r:List TN):(if kd r=4 then strOfNums (tx r)else (⟨#[]⟩:ByteArray))=strOfNums (lk r).2:=by
 unfold lk
 by_cases h:kd r=4
 ·simp[h]
 ·rw[if_neg h];simp only[h,if_false];rfl
theorem Ends.bytes {r:List TN} (h:Ends r):U.zv (tx r):=by
 obtain⟨i,n,rfl,hn,h⟩:=h
 cases i with
 |nil=>intro z hz;cases hz
 |cons x i=>exact(ok_parts (h x (List.mem_cons_self ..)).1).2
theorem Ends.lk {r:List TN} (h:Ends r):U.zv (lk r).2:=by
 unfold R.lk
 by_cases e:kd r=4
 ·simp only[e,if_true];exact h.bytes
 ·simp only[e,if_false];intro z hz;cases hz
theorem sees_eq {r:List TN} (h:Ends r) (k:Int) {x:List Int} (hx:U.zv x):(kd r==k&&(strOfNums (R.lk r).2).toList==(strOfNums x).toList)=decide (R.lk r=(k,x)):=by
 have:=look_eq (k:=kd r) (k2:=k) h.lk hx
 exact this
theorem sees_l (w:World) (b G:Nat) (r:List TN) (m:Nat) (d:Int) (h:Rd w b G r m d) (hr:Ends r) (k:Int) (x:List Int) (hx:U.zv x):
  Calls Tryz.prog 100 #[.pointer (some ⟨b,0,none⟩),.agg #[.int .i64 k,.string (strOfNums x)]] w fun e w'=>e= .returned (.bool (decide (R.lk r=(k,x))))∧Below w.heap.size w w':=by
 have hne:=hr.ne
 have CN:=zk (fun W (bW:Below w.heap.size w W)=>next_l W b G r m d (h.later bW) hne)
 have CL:=zk (fun a n c W=>lookOf_l (kd r) (strOfNums (tx r)) a n c (pl r:Nat) W)
 rw[lk_str]at CL
 have EQ:=fun W=>eqlLk (kd r) k (strOfNums (R.lk r).2) (strOfNums x) W
 rw[sees_eq hr k hx]at EQ
 generalize decide (R.lk r=(k,x))=D at*
 generalize strOfNums x=S at*
 generalize strOfNums (R.lk r).2=S2 at*
 have HB:=Below.new1 (w:=w) (.cells #[.int .i64 k,.string S] 146)
 obtain⟨⟨y0,y1⟩,-⟩:=yk (heap_alloc_new w (.cells #[.int .i64 k,.string S] 146))
 clear h hr hx hne
 go_enter Tryz.func100,Tryz.ntmps100
 go_wp2_with fail
 refine wp_region_held_drew (S:=(fun w'=>w'.cell? ⟨w.heap.size,0,none⟩=some (.int .i64 k)∧w'.cell? ⟨w.heap.size,1,none⟩=some (.string S))) (by kernel_rfl) (⟨y0,y1⟩) (fun hHeld=> ?_)
 refine tkh 0 ?_ rfl (by kernel_rfl) (fun _ _ _ h=>h) ?_ (by assumption) ?_
 rotate_left
 ·intro w hSw;(try dsimp only at hSw);go_simp;(try with_reducible rfl)
 try simp only[pls]
 refine tkh 3 ?_ rfl (by kernel_rfl) (fun _ _ _ h=>h) ?_ (by assumption) ?_
 rotate_left
 ·intro w hSw;(try dsimp only at hSw);go_simp;(try with_reducible rfl)
 try simp only[pls]
 refine wpAnyH_ready (rs:=[1]) (by kernel_rfl) (by simp) ?_
 refine AllReadyH.cons rfl (fun K hK=> ?_) AllReadyH.nil
 go_simp
 refine(zq CN _ (HB.trans zX)).mono ?_;rintro e w1 ⟨v,rfl,tv,b1⟩;obtain⟨a,c,rfl,-,-⟩:=tv
 go_wp2_with fail
 refine hK.out _ _ (by obtain⟨h0,h1⟩:=hHeld;exact⟨je b1 rfl h0,je b1 rfl h1⟩) (fun hHeld=> ?_)
 clear hK K
 try simp only[pls]
 refine wpAnyH_ready (rs:=[2]) (by kernel_rfl) (by simp) ?_
 refine AllReadyH.cons rfl (fun K hK=> ?_) AllReadyH.nil
 go_simp
 refine(zq CL _ _ _ _).mono ?_;rintro e w2 ⟨rfl,b2⟩
 go_wp2_with fail
 refine hK.out _ _ (by obtain⟨h0,h1⟩:=hHeld;exact⟨je b2 rfl h0,je b2 rfl h1⟩) (fun hHeld=> ?_)
 clear hK K
 try simp only[pls]
 refine tkh 4 ?_ rfl (by kernel_rfl) (fun _ _ _ h=>h) ?_ (by assumption) ?_
 rotate_left
 ·intro w hSw;(try dsimp only at hSw);go_simp;(try with_reducible rfl)
 try simp only[pls]
 refine tkh 5 ?_ rfl (by kernel_rfl) (fun _ _ _ h=>h) ?_ (by assumption) ?_
 rotate_left
 ·intro w hSw;(try dsimp only at hSw);go_simp;(try with_reducible rfl)
 try simp only[pls]
 refine wpAnyH_done (by kernel_rfl) ?_ _
 clear CN CL EQ
 go_wp2_with fail
 go_ret
 exact⟨rfl,zY (HB.trans zX) (zY b1 b2)⟩
end Go.Proofs.YtcblkmlcbedomaaGreatDoor.R

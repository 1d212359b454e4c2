/- Parts of the proof that stand ahead of it (T 28). -/
import Derived.Test.YtcblkmlcbedomaaGreatDoorTM27
set_option linter.unusedVariables false
set_option linter.unusedSimpArgs false
set_option maxRecDepth 20000
set_option maxHeartbeats 16000000
namespace Go.Proofs.YtcblkmlcbedomaaGreatDoor.F
open Go.RowKit Go.Proofs.YtcblkmlcbedomaaGreatDoor.T Go.Proofs.YtcblkmlcbedomaaGreatDoor.R
theorem MakV.deep {D:Nat→Prop} {w:World} {B b m:Nat} {ns:List (List Int)} {d:Int} {v:Value} {s:Mk} (h:MakV D w B b m ns d v s) (d':Int) (hd:0≤d'∧d'≤131072):MakV D (w.setCell ⟨b,11,none⟩ (.int .i64 d')) B b m ns d' v s∧Fl B b none w (w.setCell ⟨b,11,none⟩ (.int .i64 d')):=by
 have fl:Fl B b none w (w.setCell ⟨b,11,none⟩ (.int .i64 d')):=Fl.set (x:=none) w h.hB 11 _
 refine⟨h.re (x:=none) fl (Zv w) (no_d w) ?_ (fun g o hg ho=>zw ho (h.made_ne g hg) _) rfl hd h.l0,fl⟩
 have h1:=heap_setCell_same w b 11 _ _ (.int .i64 d') h.cells
 rw[h1]
 simp[qw]
theorem MakV.less {D:Nat→Prop} {w:World} {B b m:Nat} {ns:List (List Int)} {d:Int} {v:Value} {s:Mk} (h:MakV D w B b m ns d v s) (y:Int) (hy:0≤y∧y≤2147483647):MakV D (w.setCell ⟨b,12,none⟩ (.int .i64 y)) B b m ns d v ⟨s.made,y,s.pl,s.why⟩∧Fl B b none w (w.setCell ⟨b,12,none⟩ (.int .i64 y)):=by
 have fl:Fl B b none w (w.setCell ⟨b,12,none⟩ (.int .i64 y)):=Fl.set (x:=none) w h.hB 12 _
 refine⟨h.re (x:=none) fl (Zv w) (no_d w) ?_ (fun g o hg ho=>zw ho (h.made_ne g hg) _) rfl h.d0 hy,fl⟩
 have h1:=heap_setCell_same w b 12 _ _ (.int .i64 y) h.cells
 rw[h1]
 simp[qw]
def wayF:Nat→Nat
 |0=>102
 |1=>103
 |2=>104
 |3=>105
 |4=>106
 |5=>107
 |6=>108
 |7=>109
 |_=>110
theorem mk_way {W:World} {v:Value} {m b:Nat} {d:Int} {s:Mk} (h:W.heap[b]? =some (.cells (qw v m b d s) 111)) (k:Nat) (hk:k≤8):W.cell? ⟨b,2+k,none⟩=some (wayV (wayF k) b):=by
 unfold qw at h
 have:k=0∨k=1∨k=2∨k=3∨k=4∨k=5∨k=6∨k=7∨k=8:=by omega
 rcases this with rfl|rfl|rfl|rfl|rfl|rfl|rfl|rfl|rfl<;>simp[World.cell?,h,wayF]
def WyC (ns:List (List Int)) (n:Nat) (d:Int) (f:Nat) (kk:Int):Prop:=
 ∀(D:Nat→Prop) (w:World) (B b m:Nat) (s:Mk) (v:Value) (l:List SY) (pv:Value) (p:PT),B≤w.heap.size→(∀k,w.heap.size≤k→D k)→Mak (fun k=>D k∧some k≠v.ownBlock) w B b m ns d s→LV w B v l→PartB B (n+1) w pv p→smP (n+1) p→kdP p=kk→
  Calls Tryz.prog f #[.pointer (some ⟨b,0,none⟩),v,pv] w (LfR D B b m ns d v w (j4 ns (zQ ns n d) s l p))
theorem LfR.mono_w {D:Nat→Prop} {B b m:Nat} {ns:List (List Int)} {d:Int} {v:Value} {w W:World} {r:Mk×List SY} {e:Ending} {w':World} (h:LfR D B b m ns d v W r e w') (f:Fl B b none w W):LfR D B b m ns d v w r e w':=by
 obtain⟨v',e1,k1,k2,k3,k4⟩:=h
 refine⟨v',e1,k1,k2,f.none.then k3 (fun g hg=> .inl hg),fun g hg=> ?_⟩
 rcases k4 g hg with c|c
 ·exact .inl c
 ·exact .inr (Nat.le_trans f.size c)
theorem way_5 {ns:List (List Int)} {n:Nat} {d:Int} (HP:Z6 ns n d):WyC ns n d (wayF 5) 5:=by
 intro D w B b m s v l pv p hB hD h hL hp hs hk
 have e:j4 ns (zQ ns n d) s l p=kw (zQ ns n d) s l p:=by unfold j4;rw[hk];rfl
 rw[e]
 have B1:∀o,Below w.heap.size w (w.alloc o):=fun o=>Below.new1 o
 have CA:=zk (fun W (bW:Below w.heap.size w W)=>fanew_l (D:=D) (w:=W) 161 (qW Tryz.func161 rfl rfl) (AG:=fun p nn s=>jx (zQ ns n d) (psP p) s []) (fun D w B b m s pv p nn hB hD h hp hs=>feach_l HP pv p _ _ _ _ _ hB hD h hp hs) (l:=l) pv p (by have:=bW.size;omega) (fun k hk=>hD k (by have:=bW.size;omega)) (by obtain⟨mv,hm⟩:=h;exact⟨mv,hm.later bW⟩) (hL.later bW) (PartB.kept (fun g hg=>⟨hg,bW.block g (by omega)⟩) (KR.of bW) (n+1) _ p hp) hs (fun nn s=>by unfold kW;rw[hk];rfl))
 obtain⟨k,S,a1,n1,c1,a2,n2,c2,q,rfl,-,-⟩:=jq hp
 obtain⟨la,lc,rfl⟩:=hL.form
 have hlt:b<w.heap.size:=by obtain⟨mv,hm⟩:=h;exact hm.lt
 clear hp hs hD hB h hL hk e
 show Calls Tryz.prog 107 _ _ _
 generalize kw (zQ ns n d) s l p=r at*
 have hmf:∀(fn:Fn) (first cap:Array Value) (w:World),(Instr.makeFunc fn first cap).run Tryz.prog w= .ok (.func fn first cap) w:=fun _ _ _ _=>rfl
 go_enter Tryz.func107,Tryz.ntmps107
 go_wp2_with fail
 refine(zq CA _ (B1 _)).mono ?_
 clear CA
 rintro e w2 lf
 obtain⟨v2,rfl,lv2,-⟩:=id lf
 obtain⟨ya,yc,rfl⟩:=lv2.form
 have HLF:=zk lf
 clear lf lv2
 go_wp2_with fail
 go_ret
 exact(zq HLF).mono_w (Fl.of (B1 _))
theorem way_6 {ns:List (List Int)} {n:Nat} {d:Int} (HP:Z6 ns n d):WyC ns n d (wayF 6) 6:=by
 intro D w B b m s v l pv p hB hD h hL hp hs hk
 have e:j4 ns (zQ ns n d) s l p=kw (zQ ns n d) s l p:=by unfold j4;rw[hk];rfl
 rw[e]
 have B1:∀o,Below w.heap.size w (w.alloc o):=fun o=>Below.new1 o
 have CA:=zk (fun W (bW:Below w.heap.size w W)=>fanew_l (D:=D) (w:=W) 162 (qW Tryz.func162 rfl rfl) (fstar_l HP) (l:=l) pv p (by have:=bW.size;omega) (fun k hk=>hD k (by have:=bW.size;omega)) (by obtain⟨mv,hm⟩:=h;exact⟨mv,hm.later bW⟩) (hL.later bW) (PartB.kept (fun g hg=>⟨hg,bW.block g (by omega)⟩) (KR.of bW) (n+1) _ p hp) hs (fun nn s=>by unfold kW;rw[hk];rfl))
 obtain⟨k,S,a1,n1,c1,a2,n2,c2,q,rfl,-,-⟩:=jq hp
 obtain⟨la,lc,rfl⟩:=hL.form
 have hlt:b<w.heap.size:=by obtain⟨mv,hm⟩:=h;exact hm.lt
 clear hp hs hD hB h hL hk e
 show Calls Tryz.prog 108 _ _ _
 generalize kw (zQ ns n d) s l p=r at*
 have hmf:∀(fn:Fn) (first cap:Array Value) (w:World),(Instr.makeFunc fn first cap).run Tryz.prog w= .ok (.func fn first cap) w:=fun _ _ _ _=>rfl
 go_enter Tryz.func108,Tryz.ntmps108
 go_wp2_with fail
 refine(zq CA _ (B1 _)).mono ?_
 clear CA
 rintro e w2 lf
 obtain⟨v2,rfl,lv2,-⟩:=id lf
 obtain⟨ya,yc,rfl⟩:=lv2.form
 have HLF:=zk lf
 clear lf lv2
 go_wp2_with fail
 go_ret
 exact(zq HLF).mono_w (Fl.of (B1 _))
theorem way_7 {ns:List (List Int)} {n:Nat} {d:Int} (HP:Z6 ns n d):WyC ns n d (wayF 7) 7:=by
 intro D w B b m s v l pv p hB hD h hL hp hs hk
 have e:j4 ns (zQ ns n d) s l p=kw (zQ ns n d) s l p:=by unfold j4;rw[hk];rfl
 rw[e]
 have B1:∀o,Below w.heap.size w (w.alloc o):=fun o=>Below.new1 o
 have CA:=zk (fun W (bW:Below w.heap.size w W)=>fanew_l (D:=D) (w:=W) 163 (qW Tryz.func163 rfl rfl) (fplus_l HP (fun p s hs=>only_sm ns n d p s hs)) (l:=l) pv p (by have:=bW.size;omega) (fun k hk=>hD k (by have:=bW.size;omega)) (by obtain⟨mv,hm⟩:=h;exact⟨mv,hm.later bW⟩) (hL.later bW) (PartB.kept (fun g hg=>⟨hg,bW.block g (by omega)⟩) (KR.of bW) (n+1) _ p hp) hs (fun nn s=>by unfold kW;rw[hk];rfl))
 obtain⟨k,S,a1,n1,c1,a2,n2,c2,q,rfl,-,-⟩:=jq hp
 obtain⟨la,lc,rfl⟩:=hL.form
 have hlt:b<w.heap.size:=by obtain⟨mv,hm⟩:=h;exact hm.lt
 clear hp hs hD hB h hL hk e
 show Calls Tryz.prog 109 _ _ _
 generalize kw (zQ ns n d) s l p=r at*
 have hmf:∀(fn:Fn) (first cap:Array Value) (w:World),(Instr.makeFunc fn first cap).run Tryz.prog w= .ok (.func fn first cap) w:=fun _ _ _ _=>rfl
 go_enter Tryz.func109,Tryz.ntmps109
 go_wp2_with fail
 refine(zq CA _ (B1 _)).mono ?_
 clear CA
 rintro e w2 lf
 obtain⟨v2,rfl,lv2,-⟩:=id lf
 obtain⟨ya,yc,rfl⟩:=lv2.form
 have HLF:=zk lf
 clear lf lv2
 go_wp2_with fail
 go_ret
 exact(zq HLF).mono_w (Fl.of (B1 _))
theorem way_8 {ns:List (List Int)} {n:Nat} {d:Int} (HP:Z6 ns n d):WyC ns n d (wayF 8) 8:=by
 intro D w B b m s v l pv p hB hD h hL hp hs hk
 have e:j4 ns (zQ ns n d) s l p=kw (zQ ns n d) s l p:=by unfold j4;rw[hk];rfl
 rw[e]
 have B1:∀o,Below w.heap.size w (w.alloc o):=fun o=>Below.new1 o
 have CA:=zk (fun W (bW:Below w.heap.size w W)=>fanew_l (D:=D) (w:=W) 164 (qW Tryz.func164 rfl rfl) (fopt_l HP) (l:=l) pv p (by have:=bW.size;omega) (fun k hk=>hD k (by have:=bW.size;omega)) (by obtain⟨mv,hm⟩:=h;exact⟨mv,hm.later bW⟩) (hL.later bW) (PartB.kept (fun g hg=>⟨hg,bW.block g (by omega)⟩) (KR.of bW) (n+1) _ p hp) hs (fun nn s=>by unfold kW;rw[hk];rfl))
 obtain⟨k,S,a1,n1,c1,a2,n2,c2,q,rfl,-,-⟩:=jq hp
 obtain⟨la,lc,rfl⟩:=hL.form
 have hlt:b<w.heap.size:=by obtain⟨mv,hm⟩:=h;exact hm.lt
 clear hp hs hD hB h hL hk e
 show Calls Tryz.prog 110 _ _ _
 generalize kw (zQ ns n d) s l p=r at*
 have hmf:∀(fn:Fn) (first cap:Array Value) (w:World),(Instr.makeFunc fn first cap).run Tryz.prog w= .ok (.func fn first cap) w:=fun _ _ _ _=>rfl
 go_enter Tryz.func110,Tryz.ntmps110
 go_wp2_with fail
 refine(zq CA _ (B1 _)).mono ?_
 clear CA
 rintro e w2 lf
 obtain⟨v2,rfl,lv2,-⟩:=id lf
 obtain⟨ya,yc,rfl⟩:=lv2.form
 have HLF:=zk lf
 clear lf lv2
 go_wp2_with fail
 go_ret
 exact(zq HLF).mono_w (Fl.of (B1 _))
theorem way_0 (ns:List (List Int)) (n:Nat) (d:Int):WyC ns n d (wayF 0) 0:=by
 intro D w B b m s v l pv p hB hD h hL hp hs hk
 have e:j4 ns (zQ ns n d) s l p=callS ns s l p:=by unfold j4;rw[if_pos hk]
 rw[e]
 exact fcall_l n pv p hB h hL hp
theorem way_1 (ns:List (List Int)) (n:Nat) (d:Int):WyC ns n d (wayF 1) 1:=by
 intro D w B b m s v l pv p hB hD h hL hp hs hk
 have e:j4 ns (zQ ns n d) s l p=(s,vX (txP p) l):=by unfold j4;rw[hk];rfl
 rw[e]
 exact ftext_l n pv p hB h hL hp hs.1
theorem way_2 (ns:List (List Int)) (n:Nat) (d:Int):WyC ns n d (wayF 2) 2:=by
 intro D w B b m s v l pv p hB hD h hL hp hs hk
 have e:j4 ns (zQ ns n d) s l p=(s,ji l (1,rgP p,0)):=by unfold j4;rw[hk];rfl
 rw[e]
 exact fset_l n pv p hB h hL hp hs.2.1
theorem way_3 (ns:List (List Int)) (n:Nat) (d:Int):WyC ns n d (wayF 3) 3:=by
 intro D w B b m s v l pv p hB hD h hL hp hs hk
 have e:j4 ns (zQ ns n d) s l p=(s,ji l (0,rgP p,0)):=by unfold j4;rw[hk];rfl
 rw[e]
 exact foct_l n pv p hB h hL hp hs.2.1
theorem way_4 {ns:List (List Int)} {n:Nat} {d:Int} (HP:Z6 ns n d):WyC ns n d (wayF 4) 4:=by
 intro D w B b m s v l pv p hB hD h hL hp hs hk
 have e:j4 ns (zQ ns n d) s l p=Za (zQ ns n d) (psP p) s l:=by unfold j4;rw[hk];rfl
 rw[e]
 exact fseq_l HP pv p hB hD h hL hp hs
theorem all_ways {ns:List (List Int)} {n:Nat} {d:Int} (HP:Z6 ns n d):∀k,k≤8→WyC ns n d (wayF k) k:=by
 intro k hk
 have:k=0∨k=1∨k=2∨k=3∨k=4∨k=5∨k=6∨k=7∨k=8:=by omega
 rcases this with rfl|rfl|rfl|rfl|rfl|rfl|rfl|rfl|rfl
 ·exact way_0 ns n d
 ·exact way_1 ns n d
 ·exact way_2 ns n d
 ·exact way_3 ns n d
 ·exact way_4 HP
 ·exact way_5 HP
 ·exact way_6 HP
 ·exact way_7 HP
 ·exact way_8 HP
theorem part_bad {ns:List (List Int)} {n:Nat} {d:Int} {s:Mk} {l:List SY} {p:PT} (h:kdP p<0∨9≤kdP p∨d=131072∨s.left=0):zQ ns (n+1) d s l p=(s.stop (atP p) 7,l):=by unfold zQ;rw[if_pos h]
theorem part_good {ns:List (List Int)} {n:Nat} {d:Int} {s:Mk} {l:List SY} {p:PT} (h:¬(kdP p<0∨9≤kdP p∨d=131072∨s.left=0)):zQ ns (n+1) d s l p=j4 ns (zQ ns n (d+1)) ⟨s.made,s.left-1,s.pl,s.why⟩ l p:=by
 conv=>lhs;unfold zQ
 rw[if_neg h]
theorem part_zero (ns:List (List Int)) (d:Int):Z6 ns 0 d:=fun D w B b m s v l pv p _ _ _ _ hp _=>hp.elim
theorem way_enter:∀k,k≤8→∀args W,(callFunc (wayF k) args).run Tryz.prog W= .ok (.enter (wayF k) args) W:=by
 intro k hk
 have:k=0∨k=1∨k=2∨k=3∨k=4∨k=5∨k=6∨k=7∨k=8:=by omega
 rcases this with rfl|rfl|rfl|rfl|rfl|rfl|rfl|rfl|rfl
 ·exact qW Tryz.func102 rfl rfl
 ·exact qW Tryz.func103 rfl rfl
 ·exact qW Tryz.func104 rfl rfl
 ·exact qW Tryz.func105 rfl rfl
 ·exact qW Tryz.func106 rfl rfl
 ·exact qW Tryz.func107 rfl rfl
 ·exact qW Tryz.func108 rfl rfl
 ·exact qW Tryz.func109 rfl rfl
 ·exact qW Tryz.func110 rfl rfl
theorem part_succ {ns:List (List Int)} {n:Nat} {d:Int} (HW:∀k,k≤8→WyC ns n (d+1) (wayF k) k):Z6 ns (n+1) d:=by
 intro D w B b m s v l pv p hB hD h hL hp hs
 obtain⟨mv,hm⟩:=h
 have B1:∀o,Below w.heap.size w (w.alloc o):=fun o=>Below.new1 o
 have hlt:=hm.lt
 have MB:=zk hm.blk
 have HM:=zk hm
 have HL:=zk hL
 have HP:=zk hp
 have HSP:=zk hs
 have HBB:=zk hB
 have HDD:=zk hD
 obtain⟨hd0,hd1⟩:=hm.d0
 obtain⟨hy0,hy1⟩:=hm.l0
 have hyy:∃y,y=s.left:=⟨_,rfl⟩
 obtain⟨y,hyy⟩:=hyy
 rw[←hyy]at hy0 hy1
 have HYY:=zk hyy
 have C11:∀o,(w.alloc o).cell? ⟨b,11,none⟩=some (.int .i64 d):=fun o=>(yV (hm.later (B1 o)).cells).2.2.1
 have C12:∀o,(w.alloc o).cell? ⟨b,12,none⟩=some (.int .i64 y):=fun o=>by rw[hyy];exact(yV (hm.later (B1 o)).cells).2.2.2.1
 have Z11:∀o,(w.alloc o).frozen? ⟨b,11,none⟩=false:=fun o=>(yV (hm.later (B1 o)).cells).2.2.2.2.2.2.2.1
 have Z12:∀o,(w.alloc o).frozen? ⟨b,12,none⟩=false:=fun o=>(yV (hm.later (B1 o)).cells).2.2.2.2.2.2.2.2.1
 obtain⟨k,S,a1,n1,c1,a2,n2,c2,q,rfl,hk,hq⟩:=jq hp
 have CS:=zk (fun W (bW:Below w.heap.size w W)=>Yx (hm.later bW) q 7)
 obtain⟨la,lc,rfl⟩:=hL.form
 by_cases k1:k<0
 ·have FIN:Hid (zQ ns (n+1) d s l p=(s.stop q 7,l)):=by show _=_;rw[hq];exact part_bad (.inl (by omega))
  have b1:decide (k<0)=true:=decide_eq_true k1
  clear hm hL hp hs hD hk hq HW hyy k1
  go_enter Tryz.func159,Tryz.ntmps159
  go_wp2_with fail
  refine(zq CS _ (B1 _)).mono ?_
  rintro e w2 ⟨rfl,hm2,f2⟩
  have FW:Fl B b none w w2:=(Fl.of (B1 _)).then f2 (fun g e=>by cases e)
  have HFW:=zk FW
  have HM2:=zk hm2
  clear CS hm2 f2 FW
  go_wp2_with fail
  go_ret
  rw[zq FIN]
  obtain⟨bc,bf,hb⟩:=zq MB
  exact⟨_,rfl,(zq HL).fl (zq HFW) hb (Zv _) (fun g _ e=>by cases e),⟨_,zq HM2⟩,(zq HFW).none,Nx.refl _ _⟩
 ·by_cases k2:9≤k
  ·have FIN:Hid (zQ ns (n+1) d s l p=(s.stop q 7,l)):=by show _=_;rw[hq];exact part_bad (.inr (.inl (by omega)))
   have b1:decide (k<0)=false:=decide_eq_false k1
   have b2:decide (9≤k)=true:=decide_eq_true k2
   clear hm hL hp hs hD hk hq HW hyy k1 k2
   go_enter Tryz.func159,Tryz.ntmps159
   go_wp2_with fail
   refine(zq CS _ (B1 _)).mono ?_
   rintro e w2 ⟨rfl,hm2,f2⟩
   have FW:Fl B b none w w2:=(Fl.of (B1 _)).then f2 (fun g e=>by cases e)
   have HFW:=zk FW
   have HM2:=zk hm2
   clear CS hm2 f2 FW
   go_wp2_with fail
   go_ret
   rw[zq FIN]
   obtain⟨bc,bf,hb⟩:=zq MB
   exact⟨_,rfl,(zq HL).fl (zq HFW) hb (Zv _) (fun g _ e=>by cases e),⟨_,zq HM2⟩,(zq HFW).none,Nx.refl _ _⟩
  ·by_cases k3:d=131072
   ·have FIN:Hid (zQ ns (n+1) d s l p=(s.stop q 7,l)):=by show _=_;rw[hq];exact part_bad (.inr (.inr (.inl k3)))
    have b1:decide (k<0)=false:=decide_eq_false k1
    have b2:decide (9≤k)=false:=decide_eq_false k2
    have b3:(d==131072)=true:=by rw[k3];rfl
    clear hm hL hp hs hD hk hq HW hyy k1 k2 k3
    go_enter Tryz.func159,Tryz.ntmps159
    go_wp2_with fail
    refine(zq CS _ (B1 _)).mono ?_
    rintro e w2 ⟨rfl,hm2,f2⟩
    have FW:Fl B b none w w2:=(Fl.of (B1 _)).then f2 (fun g e=>by cases e)
    have HFW:=zk FW
    have HM2:=zk hm2
    clear CS hm2 f2 FW
    go_wp2_with fail
    go_ret
    rw[zq FIN]
    obtain⟨bc,bf,hb⟩:=zq MB
    exact⟨_,rfl,(zq HL).fl (zq HFW) hb (Zv _) (fun g _ e=>by cases e),⟨_,zq HM2⟩,(zq HFW).none,Nx.refl _ _⟩
   ·by_cases k4:y=0
    ·have FIN:Hid (zQ ns (n+1) d s l p=(s.stop q 7,l)):=by show _=_;rw[hq];exact part_bad (.inr (.inr (.inr (by omega))))
     have b1:decide (k<0)=false:=decide_eq_false k1
     have b2:decide (9≤k)=false:=decide_eq_false k2
     have b3:(d==131072)=false:=beq_eq_false_iff_ne.2 k3
     have b4:(y==0)=true:=by rw[k4];rfl
     clear hm hL hp hs hD hk hq HW hyy k1 k2 k3 k4
     go_enter Tryz.func159,Tryz.ntmps159
     go_wp2_with fail
     refine(zq CS _ (B1 _)).mono ?_
     rintro e w2 ⟨rfl,hm2,f2⟩
     have FW:Fl B b none w w2:=(Fl.of (B1 _)).then f2 (fun g e=>by cases e)
     have HFW:=zk FW
     have HM2:=zk hm2
     clear CS hm2 f2 FW
     go_wp2_with fail
     go_ret
     rw[zq FIN]
     obtain⟨bc,bf,hb⟩:=zq MB
     exact⟨_,rfl,(zq HL).fl (zq HFW) hb (Zv _) (fun g _ e=>by cases e),⟨_,zq HM2⟩,(zq HFW).none,Nx.refl _ _⟩
    ·have FIN:Hid (zQ ns (n+1) d s l p=j4 ns (zQ ns n (d+1)) ⟨s.made,s.left-1,s.pl,s.why⟩ l p):=part_good (by omega)
     obtain⟨kk,rfl⟩:∃kk:Nat,k=(kk:Int):=⟨k.toNat,by omega⟩
     have hkk:kk≤8:=by omega
     have b1:decide ((kk:Int)<0)=false:=decide_eq_false k1
     have b2:decide (9≤(kk:Int))=false:=decide_eq_false k2
     have b3:(d==131072)=false:=beq_eq_false_iff_ne.2 k3
     have b4:(y==0)=false:=beq_eq_false_iff_ne.2 k4
     have HWK:=zk (HW kk hkk)
     have HEN:=way_enter kk hkk
     have HK:=zk hk
     have c11:=(yV (zq HM).cells).2.2.1
     have c12:w.cell? ⟨b,12,none⟩=some (.int .i64 y):=by rw[hyy];exact(yV (zq HM).cells).2.2.2.1
     have z11:=(yV (zq HM).cells).2.2.2.2.2.2.2.1
     have z12:=(yV (zq HM).cells).2.2.2.2.2.2.2.2.1
     have hd2:d+1≤131072:=by omega
     have hy2:1≤y:=by omega
     have MWY:=zk (fun(W:World) (v:Value) (m b:Nat) (d:Int) (s:Mk) (h:W.heap[b]? =some (.cells (qw v m b d s) 111))=>mk_way h kk hkk)
     unfold wayV at MWY
     generalize wayF kk=F at*
     have kk9:(kk:Int)<9:=by omega
     have kk0:(0:Int)≤kk:=by omega
     clear hm hL hp hs hD hk hq HW hyy k1 k2 k3 k4 CS
     go_enter Tryz.func159,Tryz.ntmps159
     go_wp2_with fail
     have P0:(((w.setCell ⟨b,12,none⟩ (.int .i64 (y-1))).setCell ⟨b,11,none⟩ (.int .i64 (d+1))).alloc (.cells #[.int .i64 (kk:Int),.string S,.slice a1 n1 c1,.slice a2 n2 c2,.int .i64 q] 149)).heap[w.heap.size]? =some (.cells #[.int .i64 (kk:Int),.string S,.slice a1 n1 c1,.slice a2 n2 c2,.int .i64 q] 149):=by have:=heap_alloc_new ((w.setCell ⟨b,12,none⟩ (.int .i64 (y-1))).setCell ⟨b,11,none⟩ (.int .i64 (d+1))) (.cells #[.int .i64 (kk:Int),.string S,.slice a1 n1 c1,.slice a2 n2 c2,.int .i64 q] 149);simpa using this
     obtain⟨m1,f1⟩:=(zq HM).less (y-1) (by omega)
     obtain⟨m2,f2⟩:=m1.deep (d+1) (by omega)
     have m2:=m2.later (Below.new1 (.cells #[.int .i64 (kk:Int),.string S,.slice a1 n1 c1,.slice a2 n2 c2,.int .i64 q] 149))
     have FW:Fl B b none w (((w.setCell ⟨b,12,none⟩ (.int .i64 (y-1))).setCell ⟨b,11,none⟩ (.int .i64 (d+1))).alloc (.cells #[.int .i64 (kk:Int),.string S,.slice a1 n1 c1,.slice a2 n2 c2,.int .i64 q] 149)):=(f1.then f2 (fun g e=>by cases e)).then (Fl.of (x:=none) (Below.new1 (.cells #[.int .i64 (kk:Int),.string S,.slice a1 n1 c1,.slice a2 n2 c2,.int .i64 q] 149))) (fun g e=>by cases e)
     have sW:(((w.setCell ⟨b,12,none⟩ (.int .i64 (y-1))).setCell ⟨b,11,none⟩ (.int .i64 (d+1))).alloc (.cells #[.int .i64 (kk:Int),.string S,.slice a1 n1 c1,.slice a2 n2 c2,.int .i64 q] 149)).heap.size=w.heap.size+1:=by simp
     clear m1 f1 f2 C11 C12 Z11 Z12 c11 c12 z11 z12
     generalize (((w.setCell ⟨b,12,none⟩ (.int .i64 (y-1))).setCell ⟨b,11,none⟩ (.int .i64 (d+1))).alloc (.cells #[.int .i64 (kk:Int),.string S,.slice a1 n1 c1,.slice a2 n2 c2,.int .i64 q] 149))=WW at*
     have P1:=zq MWY _ _ _ _ _ _ m2.cells
     obtain⟨bc,bf,hb⟩:=zq MB
     have LW:=(zq HL).fl FW hb (Zv _) (fun g _ e=>by cases e)
     have PW:=PartB.fl FW hb (Zv _) (zq HBB) (zq HP)
     have CA:=zk (fun W (bW:Below WW.heap.size WW W)=>zq HWK D W B b m _ _ l _ p (Nat.le_trans (zq HBB) (Nat.le_trans FW.size bW.size)) (fun k hk=>zq HDD k (Nat.le_trans FW.size (Nat.le_trans bW.size hk))) ⟨_,m2.later bW⟩ (LW.later bW) (PartB.kept (fun g hg=>⟨hg,bW.block g (Nat.lt_of_lt_of_le hg (Nat.le_trans (zq HBB) FW.size))⟩) (KR.of bW) (n+1) _ p PW) (zq HSP) (zq HK).symm)
     generalize hr:j4 ns (zQ ns n (d+1)) ⟨s.made,y-1,s.pl,s.why⟩ l p=r at*
     have HR:=zk hr
     have HFW:=zk FW
     have VL:=zk (zq HL).lt
     have VB:=zk (zq HL).block
     clear LW PW m2 FW hr HWK
     refine wp_region_held_drew (S:=(fun w'=>w'.heap[w.heap.size]? =some (.cells #[.int .i64 (kk:Int),.string S,.slice a1 n1 c1,.slice a2 n2 c2,.int .i64 q] 149)∧w'.cell? ⟨b,2+kk,none⟩=some (.func (.func F) #[.pointer (some ⟨b,0,none⟩)] #[]))) (by kernel_rfl) (⟨P0,P1⟩) (fun hHeld=> ?_)
     refine tkh 0 ?_ rfl (by kernel_rfl) (fun _ _ _ h=>h) ?_ (by assumption) ?_
     rotate_left
     ·intro w hSw;obtain⟨⟨y0,y1,y2,y3,y4⟩,-⟩:=yW hSw.1;have q2:=hSw.2;(try clear hSw);go_simp;(try with_reducible rfl)
     try simp only[pls]
     refine tkh 1 ?_ rfl (by kernel_rfl) (fun _ _ _ h=>h) ?_ (by assumption) ?_
     rotate_left
     ·intro w hSw;obtain⟨⟨y0,y1,y2,y3,y4⟩,-⟩:=yW hSw.1;have q2:=hSw.2;(try clear hSw);go_simp;(try with_reducible rfl)
     try simp only[pls]
     refine tkh 2 ?_ rfl (by kernel_rfl) (fun _ _ _ h=>h) ?_ (by assumption) ?_
     rotate_left
     ·intro w hSw;obtain⟨⟨y0,y1,y2,y3,y4⟩,-⟩:=yW hSw.1;have q2:=hSw.2;(try clear hSw);go_simp;(try with_reducible rfl)
     try simp only[pls]
     refine tkh 3 ?_ rfl (by kernel_rfl) (fun _ _ _ h=>h) ?_ (by assumption) ?_
     rotate_left
     ·intro w hSw;obtain⟨⟨y0,y1,y2,y3,y4⟩,-⟩:=yW hSw.1;have q2:=hSw.2;(try clear hSw);go_simp;(try with_reducible rfl)
     try simp only[pls]
     refine tkh 4 ?_ rfl (by kernel_rfl) (fun _ _ _ h=>h) ?_ (by assumption) ?_
     rotate_left
     ·intro w hSw;obtain⟨⟨y0,y1,y2,y3,y4⟩,-⟩:=yW hSw.1;have q2:=hSw.2;(try clear hSw);go_simp;(try with_reducible rfl)
     try simp only[pls]
     refine tkh 5 ?_ rfl (by kernel_rfl) (fun _ _ _ h=>h) ?_ (by assumption) ?_
     rotate_left
     ·intro w hSw;obtain⟨⟨y0,y1,y2,y3,y4⟩,-⟩:=yW hSw.1;have q2:=hSw.2;(try clear hSw);go_simp;(try with_reducible rfl)
     try simp only[pls]
     refine tkh 6 ?_ rfl (by kernel_rfl) (fun _ _ _ h=>h) ?_ (by assumption) ?_
     rotate_left
     ·intro w hSw;obtain⟨⟨y0,y1,y2,y3,y4⟩,-⟩:=yW hSw.1;have q2:=hSw.2;(try clear hSw);go_simp;(try with_reducible rfl)
     try simp only[pls]
     refine tkh 7 ?_ rfl (by kernel_rfl) (fun _ _ _ h=>h) ?_ (by assumption) ?_
     rotate_left
     ·intro w hSw;obtain⟨⟨y0,y1,y2,y3,y4⟩,-⟩:=yW hSw.1;have q2:=hSw.2;(try clear hSw);go_simp;(try with_reducible rfl)
     try simp only[pls]
     refine tkh 8 ?_ rfl (by kernel_rfl) (fun _ _ _ h=>h) ?_ (by assumption) ?_
     rotate_left
     ·intro w hSw;obtain⟨⟨y0,y1,y2,y3,y4⟩,-⟩:=yW hSw.1;have q2:=hSw.2;(try clear hSw);go_simp;(try with_reducible rfl)
     try simp only[pls]
     refine wpAnyH_ready (rs:=[9]) (by kernel_rfl) (by simp) ?_
     refine AllReadyH.cons rfl (fun K hK=> ?_) AllReadyH.nil
     go_simp
     refine(zq CA _ zX).mono ?_
     clear CA
     rintro e w3 lf
     have lf:=lf.mono_w (Fl.of (x:=none) (zX (k:=1) (w:=WW)))
     obtain⟨v3,rfl,lv3,⟨mv3,mk3⟩,fl3,nx3⟩:=lf
     have P0:w3.heap[w.heap.size]? =some (.cells #[.int .i64 (kk:Int),.string S,.slice a1 n1 c1,.slice a2 n2 c2,.int .i64 q] 149):=fl3.block _ _ P0 (by omega) (fun e=>by have:=(zq VL _ e.symm).2;omega) (fun cs fr e=>by injection e with _ e;exact absurd e (by decide))
     have P1:=zq MWY _ _ _ _ _ _ mk3.cells
     obtain⟨ya,yc,rfl⟩:=lv3.form
     have c11:=(yV mk3.cells).2.2.1
     have z11:=(yV mk3.cells).2.2.2.2.2.2.2.1
     have h3:=mk3.lt
     have HLF:=zk (show LfR D B b m ns (d+1) (.slice la l.length lc) WW r (.returned (.slice ya r.2.length yc)) w3 from⟨_,rfl,lv3,⟨mv3,mk3⟩,fl3,nx3⟩)
     have HM3:=zk mk3
     clear lv3 mk3 fl3 nx3
     go_wp2_with fail
     refine hK.out _ _ (⟨P0,P1⟩) (fun hHeld=> ?_)
     clear hK K
     try simp only[pls]
     refine tkh 10 ?_ rfl (by kernel_rfl) (fun _ _ _ h=>h) ?_ (by assumption) ?_
     rotate_left
     ·intro w hSw;skip;(try clear hSw);go_simp;(try with_reducible rfl)
     try simp only[pls]
     refine wpAnyH_done (by kernel_rfl) ?_ _
     clear P0 P1 hHeld
     go_wp2_with fail
     go_ret
     rw[zq FIN]
     obtain⟨v3,e3,lv3,-,fl3,nx3⟩:=(zq HLF).mono_w (zq HFW)
     injection e3 with e3
     subst e3
     obtain⟨md,fd⟩:=(zq HM3).deep d (by omega)
     have hr:j4 ns (zQ ns n (d+1)) ⟨s.made,s.left-1,s.pl,s.why⟩ l p=r:=by rw[←zq HYY];exact zq HR
     rw[hr]
     obtain⟨bc3,bf3,hb3⟩:=(zq HM3).blk
     exact⟨_,rfl,lv3.fl fd hb3 (Zv _) (fun g _ e=>by cases e),⟨_,md⟩,fl3.then fd (fun g e=>by cases e),nx3⟩
theorem part_c (ns:List (List Int)):∀(n:Nat) (d:Int),Z6 ns n d:=by
 intro n
 induction n with
 |zero=>intro d;exact part_zero ns d
 |succ n ih=>intro d;exact part_succ (all_ways (ih (d+1)))
end Go.Proofs.YtcblkmlcbedomaaGreatDoor.F
namespace Go.Proofs.YtcblkmlcbedomaaGreatDoor.R
open Go.RowKit Go.Proofs.YtcblkmlcbedomaaGreatDoor.T
theorem Zq {W V X:World} (b:Below W.heap.size W X) (e:V.heap=W.heap) {g:Nat} {o:Obj} (h:V.heap[g]? =some o):X.heap[g]? =some o:=by
 rw[e]at h
 exact(b.block g (Array.getElem?_eq_some_iff.1 h).1).trans h
theorem seqF_none {grp:List TN→Res PT} {f:Nat} {q:Int} {acc:List PT} {r:List TN} (h:vu grp r=none):seqF grp (f+1) q acc r= .inr (R.ZV 4 acc q,r):=by
 unfold seqF;rw[h]
theorem seqF_bad {grp:List TN→Res PT} {f:Nat} {q:Int} {acc:List PT} {r:List TN} {e:Nat×Int} (h:vu grp r=some (.inl e)):seqF grp (f+1) q acc r= .inl e:=by
 unfold seqF;rw[h]
theorem seqF_one {grp:List TN→Res PT} {f:Nat} {q:Int} {acc:List PT} {r r1:List TN} {p:PT} (h:vu grp r=some (.inr (p,r1))):seqF grp (f+1) q acc r=seqF grp f q (acc++[(oft p r1).1]) (oft p r1).2:=by
 conv=>lhs;unfold seqF
 rw[h]
theorem atom_grp {grp:List TN→Res PT} {r:List TN} (h:isS r 40=true):vu grp r=some (grp r):=by
 have hk:=isS_kd h
 unfold vu
 simp[hk,h]
theorem pe_new {w3 w4 w5:World} {v:Value} {p:PT} (h:PartE (fun g=>New w3 w4 g∨New w4 w5 g) w5 v p) (s3:w3.heap.size≤w4.heap.size) (s4:w4.heap.size≤w5.heap.size):PartE (New w3 w5) w5 v p:=
 h.kept (fun g hg=>⟨by rcases hg with h|h<;>exact⟨by have:=h.1;omega,by have:=h.2;omega⟩,rfl⟩) (KR.refl _)
theorem seq_of {dd:Nat} (HGR:GrpC dd):SeqC dd:=by
 intro w b G r m h hr hl hm
 have hbl:=h.lt
 have hGl:=h.ltG
 have HB:∀o,Below w.heap.size w (w.alloc o):=fun o=>Below.new1 o
 have CN0:=zk (fun W (bW:Below w.heap.size w W)=>next_l W b G r m (dp dd) (h.later bW) hr.ne)
 have HQ:=zk (vk hr.pl)
 have HGR':=zk HGR
 have HST:=zk (And.intro h (And.intro hr hm))
 clear h hr hm HGR
 generalize hd0:dp dd=d0 at*
 have HD0:=zk hd0
 clear hd0
 go_enter Tryz.func197,Tryz.ntmps197
 go_wp2_with fail
 refine(zq CN0 _ (HB _)).mono ?_
 rintro e w1 ⟨v1,rfl,⟨a1,c1,rfl,-,-⟩,b1⟩
 clear CN0
 have B1:=zY (HB _) b1
 have K1:=zk (ze b1)
 have hf:=tok_field
 go_wp2_with fail
 clear hf
 go_loopw [4] (fun v wr=>Hid (∃(acc:List PT) (rr:List TN) (f:Nat) (cs:List Value),seqL (jX dd) r=seqF (jX dd) f (pl r) acc rr∧rr.length≤f∧acc.length+rr.length≤r.length∧RowI b G m d0 w acc rr v cs wr)) (fun _ wr=>leftN b wr)
 case atStart=>exact⟨[],r,r.length,[],rfl,Nat.le_refl _,by simp,(zq HST).2.1,(zq HST).1.later B1,(zq HST).2.2.later B1,World.ownsRow_nil _ _ _ _,rfl,Bu.of B1,zq K1⟩
 case round=>
  obtain⟨acc,rr,f,cs,hS,hff,hal,hI⟩:=zq hrel
  have HS:=zk hS
  have HI:=zk hI
  obtain⟨q5,c5,rfl⟩:=xu hI.own
  have hE:=hI.he
  have hpos:1≤rr.length:=by cases hq:rr with|nil=>exact absurd hq hE.ne|cons x y=>simp
  obtain⟨f',rfl⟩:∃f',f=f'+1:=⟨f-1,by omega⟩
  have CN:=zk (fun W (bW:Below wr.heap.size wr W)=>next_l W b G rr m d0 (hI.rd.later bW) hE.ne)
  have CL:=zk (fun a n c W=>lookOf_l (kd rr) (strOfNums (tx rr)) a n c (pl rr:Nat) W)
  rw[lk_str]at CL
  obtain⟨es,clock,hmm,lku⟩:=hI.mq.get (R.lk rr).1 (R.lk rr).2 hE.lk
  obtain⟨rc,hrc,q1,-⟩:=hI.rd.cells
  have hbr:=hI.rd.lt
  clear hrel hS hI hrc K1 HST
  rcases atom_fn (grp:=jX dd) (r:=rr)with ⟨ef,hk⟩|⟨ef,hk⟩|⟨ef,hk⟩|⟨ef,hk⟩|⟨ef,hk⟩|⟨ef,hk⟩
  ·rw[ef]at lku
   have e1:(R.lk rr).1=kd rr:=rfl
   rw[e1]at lku
   have LKU:=zk lku
   clear lku e1 ef
   have ATM:Hid (vu (jX dd) rr=some (.inr (mk 0 (tx rr) [] [] (pl rr:Nat),rr.tail))):=by show _=_;unfold vu;simp[hk]
   have E1':Ends rr.tail:=hE.tail (by rw[hk];decide)
   have hrt:=qj hE.ne
   have HK:=zk hk
   clear hE hk
   go_wp2_with fail
   refine wp_region_held_drew (S:=(fun w'=>w'.cell? ⟨b,1,none⟩=some (.map (some m))∧w'.heap[m]? =some (.map es clock))) (by kernel_rfl) (⟨q1,hmm⟩) (fun hHeld=> ?_)
   refine tkh 0 ?_ rfl (by kernel_rfl) (fun _ _ _ h=>h) ?_ (by assumption) ?_
   rotate_left
   ·intro w hSw;(try dsimp only at hSw);go_simp;(try with_reducible rfl)
   try simp only[pls]
   refine tkh 1 ?_ rfl (by kernel_rfl) (fun _ _ _ h=>h) ?_ (by assumption) ?_
   rotate_left
   ·intro w hSw;(try dsimp only at hSw);go_simp;(try with_reducible rfl)
   try simp only[pls]
   refine tkh 2 ?_ rfl (by kernel_rfl) (fun _ _ _ h=>h) ?_ (by assumption) ?_
   rotate_left
   ·intro w hSw;(try dsimp only at hSw);go_simp;(try with_reducible rfl)
   try simp only[pls]
   refine tkh 3 ?_ rfl (by kernel_rfl) (fun _ _ _ h=>h) ?_ (by assumption) ?_
   rotate_left
   ·intro w hSw;(try dsimp only at hSw);go_simp;(try with_reducible rfl)
   try simp only[pls]
   refine tkh 4 ?_ rfl (by kernel_rfl) (fun _ _ _ h=>h) ?_ (by assumption) ?_
   rotate_left
   ·intro w hSw;(try dsimp only at hSw);go_simp;(try with_reducible rfl)
   try simp only[pls]
   refine wpAnyH_ready (rs:=[5]) (by kernel_rfl) (by simp) ?_
   refine AllReadyH.cons rfl (fun K hK=> ?_) AllReadyH.nil
   go_simp
   refine(zq CN _ zX).mono ?_;rintro e w2 ⟨v2,rfl,tv2,b2⟩;obtain⟨a2,c2,rfl,-,-⟩:=tv2
   go_wp2_with fail
   refine hK.out _ _ (by obtain⟨h0,h1⟩:=hHeld;exact⟨je b2 rfl h0,Zq b2 rfl h1⟩) (fun hHeld=> ?_)
   clear hK K
   try simp only[pls]
   refine wpAnyH_ready (rs:=[6]) (by kernel_rfl) (by simp) ?_
   refine AllReadyH.cons rfl (fun K hK=> ?_) AllReadyH.nil
   go_simp
   refine(zq CL _ _ _ _).mono ?_;rintro e w3 ⟨rfl,b3⟩
   go_wp2_with fail
   refine hK.out _ _ (by obtain⟨h0,h1⟩:=hHeld;exact⟨je b3 rfl h0,Zq b3 rfl h1⟩) (fun hHeld=> ?_)
   clear hK K
   try simp only[pls]
   refine tkh 7 ?_ rfl (by kernel_rfl) (fun _ _ _ h=>h) ?_ (by assumption) ?_
   rotate_left
   ·intro w hSw;(try dsimp only at hSw);(have hlk:=zq LKU w hSw.2);go_simp;(try with_reducible rfl)
   try simp only[pls]
   refine tkh 8 ?_ rfl (by kernel_rfl) (fun _ _ _ h=>h) ?_ (by assumption) ?_
   rotate_left
   ·intro w hSw;(try dsimp only at hSw);go_simp;(try with_reducible rfl)
   try simp only[pls]
   refine tkh 9 ?_ rfl (by kernel_rfl) (fun _ _ _ h=>h) ?_ (by assumption) ?_
   rotate_left
   ·intro w hSw;(try dsimp only at hSw);go_simp;(try with_reducible rfl)
   try simp only[pls]
   refine tkh 10 ?_ rfl (by kernel_rfl) (fun _ _ _ h=>h) ?_ (by assumption) ?_
   rotate_left
   ·intro w hSw;(try dsimp only at hSw);go_simp;(try with_reducible rfl)
   try simp only[pls]
   refine tkh 11 ?_ rfl (by kernel_rfl) (fun _ _ _ h=>h) ?_ (by assumption) ?_
   rotate_left
   ·intro w hSw;(try dsimp only at hSw);go_simp;(try with_reducible rfl)
   try simp only[pls]
   refine tkh 12 ?_ rfl (by kernel_rfl) (fun _ _ _ h=>h) ?_ (by assumption) ?_
   rotate_left
   ·intro w hSw;(try dsimp only at hSw);go_simp;(try with_reducible rfl)
   try simp only[pls]
   refine wpAnyH_done (by kernel_rfl) ?_ _
   have B3:=zY (zY (zX (k:=1) (w:=wr) (B:=wr.heap.size)) b2) b3
   go_wp2_with fail
   refine(call_l w3 b G rr m d0 ((zq HI).rd.later B3) (zq HI).he (by rw[zq HK];decide)).mono ?_
   rintro e w4 ⟨v4,rfl,pe4,rd4,bu4⟩
   have hb3:b<w3.heap.size:=by have:=B3.size;have:=(zq HI).rd.lt;omega
   have E1:=zk E1'
   have CO:=zk (often_l w4 b G rr.tail m d0 rd4 E1' (New w3 w4) (fun g hg=>⟨hg.2,by have:=hg.1;omega⟩) v4 (mk 0 (tx rr) [] [] (pl rr:Nat)) pe4)
   have hs4:=bu4.size
   clear E1' CN CL LKU q1 hmm
   obtain⟨z1,z2,z3,z4,z5,z6,z7,z8,z9,rfl,-⟩:=pe4.form
   clear pe4
   go_wp2_with fail
   refine(zq CO).mono ?_
   rintro e w5 ⟨v5,rfl,pe5,rd5,bu5⟩
   clear CO
   have hs5:=bu5.size
   have PE:=zk (pe_new pe5 hs4 hs5)
   obtain⟨x1,x2,x3,x4,x5,x6,x7,x8,x9,rfl,-⟩:=pe5.form
   have HO:=Zx (Zx (j5 B3 (zq HI).own) bu4 (by omega)) bu5 (by omega)
   have hs3:=B3.size
   have hs0:=(zq HI).bu.size
   have BU5:=zk (bu4.then bu5)
   have RD5:=zk rd5
   clear pe5 rd5 rd4 bu4 bu5
   obtain⟨ti,hi0,hz0,hz1,hz2⟩:=info_parts ZJ
   go_wp2_with (at_builtin;refine wpList_append_lies _ rfl _ _ 147 rfl (w.heap.size+1) 149 ti _ 5 80 Tryz.underlying147 hi0 hz0 hz1 hz2 rfl (by omega) _ _ _ rfl (HO.alloc _) ⟨w5.heap.size,0,none⟩ 1 1 [.int .i64 x1,.string x2,.slice x3 x4 x5,.slice x6 x7 x8,.int .i64 x9] rfl rfl (YX _ _ _ _ _ _ _ rfl) (by simp[Value.oneCell']) (by omega) (by unfold maxLen;omega) (by omega) (by simp;omega) (w5.heap.size+1) (by simp) ?_;intro gg cap1 w6 hown1 hgrow hat hlt1)
   have NI:=RowI.snoc (zq HI) hbl hGl B3 (zq BU5) ((zq E1).oft (mk 0 (tx rr) [] [] (pl rr:Nat))) (zq RD5) (zq PE) hown1 hgrow (by rcases hat with h|h;exact .inl h;exact .inr (by simp[h]))
   have NI':=zk NI
   clear hgrow hat hlt1 hown1 HO
   (try go_wp2_with fail)
   go_roundw
   case rel=>
    refine⟨acc++[(oft (mk 0 (tx rr) [] [] (pl rr:Nat)) rr.tail).1],(oft (mk 0 (tx rr) [] [] (pl rr:Nat)) rr.tail).2,f',_,?_,?_,?_,zq NI'⟩
    ·rw[zq HS];exact seqF_one (zq ATM)
    ·have:=qx (mk 0 (tx rr) [] [] (pl rr:Nat)) rr.tail;omega
    ·have:=qx (mk 0 (tx rr) [] [] (pl rr:Nat)) rr.tail;rw[List.length_append,List.length_singleton];omega
   case measure=>
    rw[(zq NI').rd.left,(zq HI).rd.left]
    have:=qx (mk 0 (tx rr) [] [] (pl rr:Nat)) rr.tail
    omega
  ·rw[ef]at lku
   have e1:(R.lk rr).1=kd rr:=rfl
   rw[e1]at lku
   have LKU:=zk lku
   clear lku e1 ef
   have ATM:Hid (vu (jX dd) rr=some (.inr (mk 1 (tx rr) [] [] (pl rr:Nat),rr.tail))):=by show _=_;unfold vu;simp[hk]
   have E1':Ends rr.tail:=hE.tail (by rw[hk];decide)
   have hrt:=qj hE.ne
   have HK:=zk hk
   clear hE hk
   go_wp2_with fail
   refine wp_region_held_drew (S:=(fun w'=>w'.cell? ⟨b,1,none⟩=some (.map (some m))∧w'.heap[m]? =some (.map es clock))) (by kernel_rfl) (⟨q1,hmm⟩) (fun hHeld=> ?_)
   refine tkh 0 ?_ rfl (by kernel_rfl) (fun _ _ _ h=>h) ?_ (by assumption) ?_
   rotate_left
   ·intro w hSw;(try dsimp only at hSw);go_simp;(try with_reducible rfl)
   try simp only[pls]
   refine tkh 1 ?_ rfl (by kernel_rfl) (fun _ _ _ h=>h) ?_ (by assumption) ?_
   rotate_left
   ·intro w hSw;(try dsimp only at hSw);go_simp;(try with_reducible rfl)
   try simp only[pls]
   refine tkh 2 ?_ rfl (by kernel_rfl) (fun _ _ _ h=>h) ?_ (by assumption) ?_
   rotate_left
   ·intro w hSw;(try dsimp only at hSw);go_simp;(try with_reducible rfl)
   try simp only[pls]
   refine tkh 3 ?_ rfl (by kernel_rfl) (fun _ _ _ h=>h) ?_ (by assumption) ?_
   rotate_left
   ·intro w hSw;(try dsimp only at hSw);go_simp;(try with_reducible rfl)
   try simp only[pls]
   refine tkh 4 ?_ rfl (by kernel_rfl) (fun _ _ _ h=>h) ?_ (by assumption) ?_
   rotate_left
   ·intro w hSw;(try dsimp only at hSw);go_simp;(try with_reducible rfl)
   try simp only[pls]
   refine wpAnyH_ready (rs:=[5]) (by kernel_rfl) (by simp) ?_
   refine AllReadyH.cons rfl (fun K hK=> ?_) AllReadyH.nil
   go_simp
   refine(zq CN _ zX).mono ?_;rintro e w2 ⟨v2,rfl,tv2,b2⟩;obtain⟨a2,c2,rfl,-,-⟩:=tv2
   go_wp2_with fail
   refine hK.out _ _ (by obtain⟨h0,h1⟩:=hHeld;exact⟨je b2 rfl h0,Zq b2 rfl h1⟩) (fun hHeld=> ?_)
   clear hK K
   try simp only[pls]
   refine wpAnyH_ready (rs:=[6]) (by kernel_rfl) (by simp) ?_
   refine AllReadyH.cons rfl (fun K hK=> ?_) AllReadyH.nil
   go_simp
   refine(zq CL _ _ _ _).mono ?_;rintro e w3 ⟨rfl,b3⟩
   go_wp2_with fail
   refine hK.out _ _ (by obtain⟨h0,h1⟩:=hHeld;exact⟨je b3 rfl h0,Zq b3 rfl h1⟩) (fun hHeld=> ?_)
   clear hK K
   try simp only[pls]
   refine tkh 7 ?_ rfl (by kernel_rfl) (fun _ _ _ h=>h) ?_ (by assumption) ?_
   rotate_left
   ·intro w hSw;(try dsimp only at hSw);(have hlk:=zq LKU w hSw.2);go_simp;(try with_reducible rfl)
   try simp only[pls]
   refine tkh 8 ?_ rfl (by kernel_rfl) (fun _ _ _ h=>h) ?_ (by assumption) ?_
   rotate_left
   ·intro w hSw;(try dsimp only at hSw);go_simp;(try with_reducible rfl)
   try simp only[pls]
   refine tkh 9 ?_ rfl (by kernel_rfl) (fun _ _ _ h=>h) ?_ (by assumption) ?_
   rotate_left
   ·intro w hSw;(try dsimp only at hSw);go_simp;(try with_reducible rfl)
   try simp only[pls]
   refine tkh 10 ?_ rfl (by kernel_rfl) (fun _ _ _ h=>h) ?_ (by assumption) ?_
   rotate_left
   ·intro w hSw;(try dsimp only at hSw);go_simp;(try with_reducible rfl)
   try simp only[pls]
   refine tkh 11 ?_ rfl (by kernel_rfl) (fun _ _ _ h=>h) ?_ (by assumption) ?_
   rotate_left
   ·intro w hSw;(try dsimp only at hSw);go_simp;(try with_reducible rfl)
   try simp only[pls]
   refine tkh 12 ?_ rfl (by kernel_rfl) (fun _ _ _ h=>h) ?_ (by assumption) ?_
   rotate_left
   ·intro w hSw;(try dsimp only at hSw);go_simp;(try with_reducible rfl)
   try simp only[pls]
   refine wpAnyH_done (by kernel_rfl) ?_ _
   have B3:=zY (zY (zX (k:=1) (w:=wr) (B:=wr.heap.size)) b2) b3
   go_wp2_with fail
   refine(text_l w3 b G rr m d0 ((zq HI).rd.later B3) (zq HI).he (by rw[zq HK];decide)).mono ?_
   rintro e w4 ⟨v4,rfl,pe4,rd4,bu4⟩
   have hb3:b<w3.heap.size:=by have:=B3.size;have:=(zq HI).rd.lt;omega
   have E1:=zk E1'
   have CO:=zk (often_l w4 b G rr.tail m d0 rd4 E1' (New w3 w4) (fun g hg=>⟨hg.2,by have:=hg.1;omega⟩) v4 (mk 1 (tx rr) [] [] (pl rr:Nat)) pe4)
   have hs4:=bu4.size
   clear E1' CN CL LKU q1 hmm
   obtain⟨z1,z2,z3,z4,z5,z6,z7,z8,z9,rfl,-⟩:=pe4.form
   clear pe4
   go_wp2_with fail
   refine(zq CO).mono ?_
   rintro e w5 ⟨v5,rfl,pe5,rd5,bu5⟩
   clear CO
   have hs5:=bu5.size
   have PE:=zk (pe_new pe5 hs4 hs5)
   obtain⟨x1,x2,x3,x4,x5,x6,x7,x8,x9,rfl,-⟩:=pe5.form
   have HO:=Zx (Zx (j5 B3 (zq HI).own) bu4 (by omega)) bu5 (by omega)
   have hs3:=B3.size
   have hs0:=(zq HI).bu.size
   have BU5:=zk (bu4.then bu5)
   have RD5:=zk rd5
   clear pe5 rd5 rd4 bu4 bu5
   obtain⟨ti,hi0,hz0,hz1,hz2⟩:=info_parts ZJ
   go_wp2_with (at_builtin;refine wpList_append_lies _ rfl _ _ 147 rfl (w.heap.size+1) 149 ti _ 5 80 Tryz.underlying147 hi0 hz0 hz1 hz2 rfl (by omega) _ _ _ rfl (HO.alloc _) ⟨w5.heap.size,0,none⟩ 1 1 [.int .i64 x1,.string x2,.slice x3 x4 x5,.slice x6 x7 x8,.int .i64 x9] rfl rfl (YX _ _ _ _ _ _ _ rfl) (by simp[Value.oneCell']) (by omega) (by unfold maxLen;omega) (by omega) (by simp;omega) (w5.heap.size+1) (by simp) ?_;intro gg cap1 w6 hown1 hgrow hat hlt1)
   have NI:=RowI.snoc (zq HI) hbl hGl B3 (zq BU5) ((zq E1).oft (mk 1 (tx rr) [] [] (pl rr:Nat))) (zq RD5) (zq PE) hown1 hgrow (by rcases hat with h|h;exact .inl h;exact .inr (by simp[h]))
   have NI':=zk NI
   clear hgrow hat hlt1 hown1 HO
   (try go_wp2_with fail)
   go_roundw
   case rel=>
    refine⟨acc++[(oft (mk 1 (tx rr) [] [] (pl rr:Nat)) rr.tail).1],(oft (mk 1 (tx rr) [] [] (pl rr:Nat)) rr.tail).2,f',_,?_,?_,?_,zq NI'⟩
    ·rw[zq HS];exact seqF_one (zq ATM)
    ·have:=qx (mk 1 (tx rr) [] [] (pl rr:Nat)) rr.tail;omega
    ·have:=qx (mk 1 (tx rr) [] [] (pl rr:Nat)) rr.tail;rw[List.length_append,List.length_singleton];omega
   case measure=>
    rw[(zq NI').rd.left,(zq HI).rd.left]
    have:=qx (mk 1 (tx rr) [] [] (pl rr:Nat)) rr.tail
    omega
  ·rw[ef]at lku
   have e1:(R.lk rr).1=kd rr:=rfl
   rw[e1]at lku
   have LKU:=zk lku
   clear lku e1 ef
   have ATM:Hid (vu (jX dd) rr=some (.inr (mk 2 [] (rg rr) [] (pl rr:Nat),rr.tail))):=by show _=_;unfold vu;simp[hk]
   have E1':Ends rr.tail:=hE.tail (by rw[hk];decide)
   have hrt:=qj hE.ne
   have HK:=zk hk
   clear hE hk
   go_wp2_with fail
   refine wp_region_held_drew (S:=(fun w'=>w'.cell? ⟨b,1,none⟩=some (.map (some m))∧w'.heap[m]? =some (.map es clock))) (by kernel_rfl) (⟨q1,hmm⟩) (fun hHeld=> ?_)
   refine tkh 0 ?_ rfl (by kernel_rfl) (fun _ _ _ h=>h) ?_ (by assumption) ?_
   rotate_left
   ·intro w hSw;(try dsimp only at hSw);go_simp;(try with_reducible rfl)
   try simp only[pls]
   refine tkh 1 ?_ rfl (by kernel_rfl) (fun _ _ _ h=>h) ?_ (by assumption) ?_
   rotate_left
   ·intro w hSw;(try dsimp only at hSw);go_simp;(try with_reducible rfl)
   try simp only[pls]
   refine tkh 2 ?_ rfl (by kernel_rfl) (fun _ _ _ h=>h) ?_ (by assumption) ?_
   rotate_left
   ·intro w hSw;(try dsimp only at hSw);go_simp;(try with_reducible rfl)
   try simp only[pls]
   refine tkh 3 ?_ rfl (by kernel_rfl) (fun _ _ _ h=>h) ?_ (by assumption) ?_
   rotate_left
   ·intro w hSw;(try dsimp only at hSw);go_simp;(try with_reducible rfl)
   try simp only[pls]
   refine tkh 4 ?_ rfl (by kernel_rfl) (fun _ _ _ h=>h) ?_ (by assumption) ?_
   rotate_left
   ·intro w hSw;(try dsimp only at hSw);go_simp;(try with_reducible rfl)
   try simp only[pls]
   refine wpAnyH_ready (rs:=[5]) (by kernel_rfl) (by simp) ?_
   refine AllReadyH.cons rfl (fun K hK=> ?_) AllReadyH.nil
   go_simp
   refine(zq CN _ zX).mono ?_;rintro e w2 ⟨v2,rfl,tv2,b2⟩;obtain⟨a2,c2,rfl,-,-⟩:=tv2
   go_wp2_with fail
   refine hK.out _ _ (by obtain⟨h0,h1⟩:=hHeld;exact⟨je b2 rfl h0,Zq b2 rfl h1⟩) (fun hHeld=> ?_)
   clear hK K
   try simp only[pls]
   refine wpAnyH_ready (rs:=[6]) (by kernel_rfl) (by simp) ?_
   refine AllReadyH.cons rfl (fun K hK=> ?_) AllReadyH.nil
   go_simp
   refine(zq CL _ _ _ _).mono ?_;rintro e w3 ⟨rfl,b3⟩
   go_wp2_with fail
   refine hK.out _ _ (by obtain⟨h0,h1⟩:=hHeld;exact⟨je b3 rfl h0,Zq b3 rfl h1⟩) (fun hHeld=> ?_)
   clear hK K
   try simp only[pls]
   refine tkh 7 ?_ rfl (by kernel_rfl) (fun _ _ _ h=>h) ?_ (by assumption) ?_
   rotate_left
   ·intro w hSw;(try dsimp only at hSw);(have hlk:=zq LKU w hSw.2);go_simp;(try with_reducible rfl)
   try simp only[pls]
   refine tkh 8 ?_ rfl (by kernel_rfl) (fun _ _ _ h=>h) ?_ (by assumption) ?_
   rotate_left
   ·intro w hSw;(try dsimp only at hSw);go_simp;(try with_reducible rfl)
   try simp only[pls]
   refine tkh 9 ?_ rfl (by kernel_rfl) (fun _ _ _ h=>h) ?_ (by assumption) ?_
   rotate_left
   ·intro w hSw;(try dsimp only at hSw);go_simp;(try with_reducible rfl)
   try simp only[pls]
   refine tkh 10 ?_ rfl (by kernel_rfl) (fun _ _ _ h=>h) ?_ (by assumption) ?_
   rotate_left
   ·intro w hSw;(try dsimp only at hSw);go_simp;(try with_reducible rfl)
   try simp only[pls]
   refine tkh 11 ?_ rfl (by kernel_rfl) (fun _ _ _ h=>h) ?_ (by assumption) ?_
   rotate_left
   ·intro w hSw;(try dsimp only at hSw);go_simp;(try with_reducible rfl)
   try simp only[pls]
   refine tkh 12 ?_ rfl (by kernel_rfl) (fun _ _ _ h=>h) ?_ (by assumption) ?_
   rotate_left
   ·intro w hSw;(try dsimp only at hSw);go_simp;(try with_reducible rfl)
   try simp only[pls]
   refine wpAnyH_done (by kernel_rfl) ?_ _
   have B3:=zY (zY (zX (k:=1) (w:=wr) (B:=wr.heap.size)) b2) b3
   go_wp2_with fail
   refine(set_l w3 b G rr m d0 ((zq HI).rd.later B3) (zq HI).he (by rw[zq HK];decide)).mono ?_
   rintro e w4 ⟨v4,rfl,pe4,rd4,bu4⟩
   have hb3:b<w3.heap.size:=by have:=B3.size;have:=(zq HI).rd.lt;omega
   have E1:=zk E1'
   have CO:=zk (often_l w4 b G rr.tail m d0 rd4 E1' (New w3 w4) (fun g hg=>⟨hg.2,by have:=hg.1;omega⟩) v4 (mk 2 [] (rg rr) [] (pl rr:Nat)) pe4)
   have hs4:=bu4.size
   clear E1' CN CL LKU q1 hmm
   obtain⟨z1,z2,z3,z4,z5,z6,z7,z8,z9,rfl,-⟩:=pe4.form
   clear pe4
   go_wp2_with fail
   refine(zq CO).mono ?_
   rintro e w5 ⟨v5,rfl,pe5,rd5,bu5⟩
   clear CO
   have hs5:=bu5.size
   have PE:=zk (pe_new pe5 hs4 hs5)
   obtain⟨x1,x2,x3,x4,x5,x6,x7,x8,x9,rfl,-⟩:=pe5.form
   have HO:=Zx (Zx (j5 B3 (zq HI).own) bu4 (by omega)) bu5 (by omega)
   have hs3:=B3.size
   have hs0:=(zq HI).bu.size
   have BU5:=zk (bu4.then bu5)
   have RD5:=zk rd5
   clear pe5 rd5 rd4 bu4 bu5
   obtain⟨ti,hi0,hz0,hz1,hz2⟩:=info_parts ZJ
   go_wp2_with (at_builtin;refine wpList_append_lies _ rfl _ _ 147 rfl (w.heap.size+1) 149 ti _ 5 80 Tryz.underlying147 hi0 hz0 hz1 hz2 rfl (by omega) _ _ _ rfl (HO.alloc _) ⟨w5.heap.size,0,none⟩ 1 1 [.int .i64 x1,.string x2,.slice x3 x4 x5,.slice x6 x7 x8,.int .i64 x9] rfl rfl (YX _ _ _ _ _ _ _ rfl) (by simp[Value.oneCell']) (by omega) (by unfold maxLen;omega) (by omega) (by simp;omega) (w5.heap.size+1) (by simp) ?_;intro gg cap1 w6 hown1 hgrow hat hlt1)
   have NI:=RowI.snoc (zq HI) hbl hGl B3 (zq BU5) ((zq E1).oft (mk 2 [] (rg rr) [] (pl rr:Nat))) (zq RD5) (zq PE) hown1 hgrow (by rcases hat with h|h;exact .inl h;exact .inr (by simp[h]))
   have NI':=zk NI
   clear hgrow hat hlt1 hown1 HO
   (try go_wp2_with fail)
   go_roundw
   case rel=>
    refine⟨acc++[(oft (mk 2 [] (rg rr) [] (pl rr:Nat)) rr.tail).1],(oft (mk 2 [] (rg rr) [] (pl rr:Nat)) rr.tail).2,f',_,?_,?_,?_,zq NI'⟩
    ·rw[zq HS];exact seqF_one (zq ATM)
    ·have:=qx (mk 2 [] (rg rr) [] (pl rr:Nat)) rr.tail;omega
    ·have:=qx (mk 2 [] (rg rr) [] (pl rr:Nat)) rr.tail;rw[List.length_append,List.length_singleton];omega
   case measure=>
    rw[(zq NI').rd.left,(zq HI).rd.left]
    have:=qx (mk 2 [] (rg rr) [] (pl rr:Nat)) rr.tail
    omega
  ·rw[ef]at lku
   have e1:(R.lk rr).1=kd rr:=rfl
   rw[e1]at lku
   have LKU:=zk lku
   clear lku e1 ef
   have ATM:Hid (vu (jX dd) rr=some (.inr (mk 3 [] (rg rr) [] (pl rr:Nat),rr.tail))):=by show _=_;unfold vu;simp[hk]
   have E1':Ends rr.tail:=hE.tail (by rw[hk];decide)
   have hrt:=qj hE.ne
   have HK:=zk hk
   clear hE hk
   go_wp2_with fail
   refine wp_region_held_drew (S:=(fun w'=>w'.cell? ⟨b,1,none⟩=some (.map (some m))∧w'.heap[m]? =some (.map es clock))) (by kernel_rfl) (⟨q1,hmm⟩) (fun hHeld=> ?_)
   refine tkh 0 ?_ rfl (by kernel_rfl) (fun _ _ _ h=>h) ?_ (by assumption) ?_
   rotate_left
   ·intro w hSw;(try dsimp only at hSw);go_simp;(try with_reducible rfl)
   try simp only[pls]
   refine tkh 1 ?_ rfl (by kernel_rfl) (fun _ _ _ h=>h) ?_ (by assumption) ?_
   rotate_left
   ·intro w hSw;(try dsimp only at hSw);go_simp;(try with_reducible rfl)
   try simp only[pls]
   refine tkh 2 ?_ rfl (by kernel_rfl) (fun _ _ _ h=>h) ?_ (by assumption) ?_
   rotate_left
   ·intro w hSw;(try dsimp only at hSw);go_simp;(try with_reducible rfl)
   try simp only[pls]
   refine tkh 3 ?_ rfl (by kernel_rfl) (fun _ _ _ h=>h) ?_ (by assumption) ?_
   rotate_left
   ·intro w hSw;(try dsimp only at hSw);go_simp;(try with_reducible rfl)
   try simp only[pls]
   refine tkh 4 ?_ rfl (by kernel_rfl) (fun _ _ _ h=>h) ?_ (by assumption) ?_
   rotate_left
   ·intro w hSw;(try dsimp only at hSw);go_simp;(try with_reducible rfl)
   try simp only[pls]
   refine wpAnyH_ready (rs:=[5]) (by kernel_rfl) (by simp) ?_
   refine AllReadyH.cons rfl (fun K hK=> ?_) AllReadyH.nil
   go_simp
   refine(zq CN _ zX).mono ?_;rintro e w2 ⟨v2,rfl,tv2,b2⟩;obtain⟨a2,c2,rfl,-,-⟩:=tv2
   go_wp2_with fail
   refine hK.out _ _ (by obtain⟨h0,h1⟩:=hHeld;exact⟨je b2 rfl h0,Zq b2 rfl h1⟩) (fun hHeld=> ?_)
   clear hK K
   try simp only[pls]
   refine wpAnyH_ready (rs:=[6]) (by kernel_rfl) (by simp) ?_
   refine AllReadyH.cons rfl (fun K hK=> ?_) AllReadyH.nil
   go_simp
   refine(zq CL _ _ _ _).mono ?_;rintro e w3 ⟨rfl,b3⟩
   go_wp2_with fail
   refine hK.out _ _ (by obtain⟨h0,h1⟩:=hHeld;exact⟨je b3 rfl h0,Zq b3 rfl h1⟩) (fun hHeld=> ?_)
   clear hK K
   try simp only[pls]
   refine tkh 7 ?_ rfl (by kernel_rfl) (fun _ _ _ h=>h) ?_ (by assumption) ?_
   rotate_left
   ·intro w hSw;(try dsimp only at hSw);(have hlk:=zq LKU w hSw.2);go_simp;(try with_reducible rfl)
   try simp only[pls]
   refine tkh 8 ?_ rfl (by kernel_rfl) (fun _ _ _ h=>h) ?_ (by assumption) ?_
   rotate_left
   ·intro w hSw;(try dsimp only at hSw);go_simp;(try with_reducible rfl)
   try simp only[pls]
   refine tkh 9 ?_ rfl (by kernel_rfl) (fun _ _ _ h=>h) ?_ (by assumption) ?_
   rotate_left
   ·intro w hSw;(try dsimp only at hSw);go_simp;(try with_reducible rfl)
   try simp only[pls]
   refine tkh 10 ?_ rfl (by kernel_rfl) (fun _ _ _ h=>h) ?_ (by assumption) ?_
   rotate_left
   ·intro w hSw;(try dsimp only at hSw);go_simp;(try with_reducible rfl)
   try simp only[pls]
   refine tkh 11 ?_ rfl (by kernel_rfl) (fun _ _ _ h=>h) ?_ (by assumption) ?_
   rotate_left
   ·intro w hSw;(try dsimp only at hSw);go_simp;(try with_reducible rfl)
   try simp only[pls]
   refine tkh 12 ?_ rfl (by kernel_rfl) (fun _ _ _ h=>h) ?_ (by assumption) ?_
   rotate_left
   ·intro w hSw;(try dsimp only at hSw);go_simp;(try with_reducible rfl)
   try simp only[pls]
   refine wpAnyH_done (by kernel_rfl) ?_ _
   have B3:=zY (zY (zX (k:=1) (w:=wr) (B:=wr.heap.size)) b2) b3
   go_wp2_with fail
   refine(octets_l w3 b G rr m d0 ((zq HI).rd.later B3) (zq HI).he (by rw[zq HK];decide)).mono ?_
   rintro e w4 ⟨v4,rfl,pe4,rd4,bu4⟩
   have hb3:b<w3.heap.size:=by have:=B3.size;have:=(zq HI).rd.lt;omega
   have E1:=zk E1'
   have CO:=zk (often_l w4 b G rr.tail m d0 rd4 E1' (New w3 w4) (fun g hg=>⟨hg.2,by have:=hg.1;omega⟩) v4 (mk 3 [] (rg rr) [] (pl rr:Nat)) pe4)
   have hs4:=bu4.size
   clear E1' CN CL LKU q1 hmm
   obtain⟨z1,z2,z3,z4,z5,z6,z7,z8,z9,rfl,-⟩:=pe4.form
   clear pe4
   go_wp2_with fail
   refine(zq CO).mono ?_
   rintro e w5 ⟨v5,rfl,pe5,rd5,bu5⟩
   clear CO
   have hs5:=bu5.size
   have PE:=zk (pe_new pe5 hs4 hs5)
   obtain⟨x1,x2,x3,x4,x5,x6,x7,x8,x9,rfl,-⟩:=pe5.form
   have HO:=Zx (Zx (j5 B3 (zq HI).own) bu4 (by omega)) bu5 (by omega)
   have hs3:=B3.size
   have hs0:=(zq HI).bu.size
   have BU5:=zk (bu4.then bu5)
   have RD5:=zk rd5
   clear pe5 rd5 rd4 bu4 bu5
   obtain⟨ti,hi0,hz0,hz1,hz2⟩:=info_parts ZJ
   go_wp2_with (at_builtin;refine wpList_append_lies _ rfl _ _ 147 rfl (w.heap.size+1) 149 ti _ 5 80 Tryz.underlying147 hi0 hz0 hz1 hz2 rfl (by omega) _ _ _ rfl (HO.alloc _) ⟨w5.heap.size,0,none⟩ 1 1 [.int .i64 x1,.string x2,.slice x3 x4 x5,.slice x6 x7 x8,.int .i64 x9] rfl rfl (YX _ _ _ _ _ _ _ rfl) (by simp[Value.oneCell']) (by omega) (by unfold maxLen;omega) (by omega) (by simp;omega) (w5.heap.size+1) (by simp) ?_;intro gg cap1 w6 hown1 hgrow hat hlt1)
   have NI:=RowI.snoc (zq HI) hbl hGl B3 (zq BU5) ((zq E1).oft (mk 3 [] (rg rr) [] (pl rr:Nat))) (zq RD5) (zq PE) hown1 hgrow (by rcases hat with h|h;exact .inl h;exact .inr (by simp[h]))
   have NI':=zk NI
   clear hgrow hat hlt1 hown1 HO
   (try go_wp2_with fail)
   go_roundw
   case rel=>
    refine⟨acc++[(oft (mk 3 [] (rg rr) [] (pl rr:Nat)) rr.tail).1],(oft (mk 3 [] (rg rr) [] (pl rr:Nat)) rr.tail).2,f',_,?_,?_,?_,zq NI'⟩
    ·rw[zq HS];exact seqF_one (zq ATM)
    ·have:=qx (mk 3 [] (rg rr) [] (pl rr:Nat)) rr.tail;omega
    ·have:=qx (mk 3 [] (rg rr) [] (pl rr:Nat)) rr.tail;rw[List.length_append,List.length_singleton];omega
   case measure=>
    rw[(zq NI').rd.left,(zq HI).rd.left]
    have:=qx (mk 3 [] (rg rr) [] (pl rr:Nat)) rr.tail
    omega
  ·rw[ef]at lku
   have e1:(R.lk rr).1=kd rr:=rfl
   rw[e1]at lku
   have LKU:=zk lku
   clear lku e1 ef
   have CG:=zk (fun W (bW:Below wr.heap.size wr W)=>zq HGR' W b G rr m (by rw[zq HD0];exact(zq HI).rd.later bW) hE hk (by omega) ((zq HI).mq.later bW))
   rw[zq HD0]at CG
   have ATM:=zk (atom_grp (grp:=jX dd) hk)
   have hrt:=qj hE.ne
   clear hE
   go_wp2_with fail
   refine wp_region_held_drew (S:=(fun w'=>w'.cell? ⟨b,1,none⟩=some (.map (some m))∧w'.heap[m]? =some (.map es clock))) (by kernel_rfl) (⟨q1,hmm⟩) (fun hHeld=> ?_)
   refine tkh 0 ?_ rfl (by kernel_rfl) (fun _ _ _ h=>h) ?_ (by assumption) ?_
   rotate_left
   ·intro w hSw;(try dsimp only at hSw);go_simp;(try with_reducible rfl)
   try simp only[pls]
   refine tkh 1 ?_ rfl (by kernel_rfl) (fun _ _ _ h=>h) ?_ (by assumption) ?_
   rotate_left
   ·intro w hSw;(try dsimp only at hSw);go_simp;(try with_reducible rfl)
   try simp only[pls]
   refine tkh 2 ?_ rfl (by kernel_rfl) (fun _ _ _ h=>h) ?_ (by assumption) ?_
   rotate_left
   ·intro w hSw;(try dsimp only at hSw);go_simp;(try with_reducible rfl)
   try simp only[pls]
   refine tkh 3 ?_ rfl (by kernel_rfl) (fun _ _ _ h=>h) ?_ (by assumption) ?_
   rotate_left
   ·intro w hSw;(try dsimp only at hSw);go_simp;(try with_reducible rfl)
   try simp only[pls]
   refine tkh 4 ?_ rfl (by kernel_rfl) (fun _ _ _ h=>h) ?_ (by assumption) ?_
   rotate_left
   ·intro w hSw;(try dsimp only at hSw);go_simp;(try with_reducible rfl)
   try simp only[pls]
   refine wpAnyH_ready (rs:=[5]) (by kernel_rfl) (by simp) ?_
   refine AllReadyH.cons rfl (fun K hK=> ?_) AllReadyH.nil
   go_simp
   refine(zq CN _ zX).mono ?_;rintro e w2 ⟨v2,rfl,tv2,b2⟩;obtain⟨a2,c2,rfl,-,-⟩:=tv2
   go_wp2_with fail
   refine hK.out _ _ (by obtain⟨h0,h1⟩:=hHeld;exact⟨je b2 rfl h0,Zq b2 rfl h1⟩) (fun hHeld=> ?_)
   clear hK K
   try simp only[pls]
   refine wpAnyH_ready (rs:=[6]) (by kernel_rfl) (by simp) ?_
   refine AllReadyH.cons rfl (fun K hK=> ?_) AllReadyH.nil
   go_simp
   refine(zq CL _ _ _ _).mono ?_;rintro e w3 ⟨rfl,b3⟩
   go_wp2_with fail
   refine hK.out _ _ (by obtain⟨h0,h1⟩:=hHeld;exact⟨je b3 rfl h0,Zq b3 rfl h1⟩) (fun hHeld=> ?_)
   clear hK K
   try simp only[pls]
   refine tkh 7 ?_ rfl (by kernel_rfl) (fun _ _ _ h=>h) ?_ (by assumption) ?_
   rotate_left
   ·intro w hSw;(try dsimp only at hSw);(have hlk:=zq LKU w hSw.2);go_simp;(try with_reducible rfl)
   try simp only[pls]
   refine tkh 8 ?_ rfl (by kernel_rfl) (fun _ _ _ h=>h) ?_ (by assumption) ?_
   rotate_left
   ·intro w hSw;(try dsimp only at hSw);go_simp;(try with_reducible rfl)
   try simp only[pls]
   refine tkh 9 ?_ rfl (by kernel_rfl) (fun _ _ _ h=>h) ?_ (by assumption) ?_
   rotate_left
   ·intro w hSw;(try dsimp only at hSw);go_simp;(try with_reducible rfl)
   try simp only[pls]
   refine tkh 10 ?_ rfl (by kernel_rfl) (fun _ _ _ h=>h) ?_ (by assumption) ?_
   rotate_left
   ·intro w hSw;(try dsimp only at hSw);go_simp;(try with_reducible rfl)
   try simp only[pls]
   refine tkh 11 ?_ rfl (by kernel_rfl) (fun _ _ _ h=>h) ?_ (by assumption) ?_
   rotate_left
   ·intro w hSw;(try dsimp only at hSw);go_simp;(try with_reducible rfl)
   try simp only[pls]
   refine tkh 12 ?_ rfl (by kernel_rfl) (fun _ _ _ h=>h) ?_ (by assumption) ?_
   rotate_left
   ·intro w hSw;(try dsimp only at hSw);go_simp;(try with_reducible rfl)
   try simp only[pls]
   refine wpAnyH_done (by kernel_rfl) ?_ _
   have B3:=zY (zY (zX (k:=1) (w:=wr) (B:=wr.heap.size)) b2) b3
   go_wp2_with fail
   refine(zq CG _ B3).mono ?_
   clear CG
   rintro e w4 (⟨v4,p4,r4,eg,rfl,pe4,E1',hl4,rd4,bu4⟩|⟨q4,y4,eg,rfl,bu4⟩)
   ·have ATN:Hid (vu (jX dd) rr=some (.inr (p4,r4))):=by show _=_;rw[zq ATM,eg]
    clear ATM eg
    have hb3:b<w3.heap.size:=by have:=B3.size;have:=(zq HI).rd.lt;omega
    have E1:=zk E1'
    have CO:=zk (often_l w4 b G r4 m d0 rd4 E1' (New w3 w4) (fun g hg=>⟨hg.2,by have:=hg.1;omega⟩) v4 p4 pe4)
    have hs4:=bu4.size
    clear E1' CN CL LKU q1 hmm
    obtain⟨z1,z2,z3,z4,z5,z6,z7,z8,z9,rfl,-⟩:=pe4.form
    clear pe4
    go_wp2_with fail
    refine(zq CO).mono ?_
    rintro e w5 ⟨v5,rfl,pe5,rd5,bu5⟩
    clear CO
    have hs5:=bu5.size
    have PE:=zk (pe_new pe5 hs4 hs5)
    obtain⟨x1,x2,x3,x4,x5,x6,x7,x8,x9,rfl,-⟩:=pe5.form
    have HO:=Zx (Zx (j5 B3 (zq HI).own) bu4 (by omega)) bu5 (by omega)
    have hs3:=B3.size
    have hs0:=(zq HI).bu.size
    have BU5:=zk (bu4.then bu5)
    have RD5:=zk rd5
    clear pe5 rd5 rd4 bu4 bu5
    obtain⟨ti,hi0,hz0,hz1,hz2⟩:=info_parts ZJ
    go_wp2_with (at_builtin;refine wpList_append_lies _ rfl _ _ 147 rfl (w.heap.size+1) 149 ti _ 5 80 Tryz.underlying147 hi0 hz0 hz1 hz2 rfl (by omega) _ _ _ rfl (HO.alloc _) ⟨w5.heap.size,0,none⟩ 1 1 [.int .i64 x1,.string x2,.slice x3 x4 x5,.slice x6 x7 x8,.int .i64 x9] rfl rfl (YX _ _ _ _ _ _ _ rfl) (by simp[Value.oneCell']) (by omega) (by unfold maxLen;omega) (by omega) (by simp;omega) (w5.heap.size+1) (by simp) ?_;intro gg cap1 w6 hown1 hgrow hat hlt1)
    have NI:=RowI.snoc (zq HI) hbl hGl B3 (zq BU5) ((zq E1).oft p4) (zq RD5) (zq PE) hown1 hgrow (by rcases hat with h|h;exact .inl h;exact .inr (by simp[h]))
    have NI':=zk NI
    clear hgrow hat hlt1 hown1 HO
    (try go_wp2_with fail)
    go_roundw
    case rel=>
     refine⟨acc++[(oft p4 r4).1],(oft p4 r4).2,f',_,?_,?_,?_,zq NI'⟩
     ·rw[zq HS];exact seqF_one (zq ATN)
     ·have:=qx p4 r4;omega
     ·have:=qx p4 r4;rw[List.length_append,List.length_singleton];omega
    case measure=>
     rw[(zq NI').rd.left,(zq HI).rd.left]
     have:=qx p4 r4
     omega
   ·have FIN:Hid (seqL (jX dd) r= .inl (q4,y4)):=by show _=_;rw[zq HS];exact seqF_bad (by rw[zq ATM,eg])
    have BF:=zk (((zq HI).bu.then (Bu.of B3)).then bu4)
    clear ATM eg CN CL LKU q1 hmm
    unfold xv
    go_wp2_with fail
    exact⟨rfl,.inr ⟨q4,y4,zq FIN,rfl,zq BF⟩⟩
  ·rw[ef]at lku
   have e1:(R.lk rr).1=kd rr:=rfl
   rw[e1]at lku
   have LKU:=zk lku
   clear lku e1 ef
   have FIN:Hid (seqL (jX dd) r= .inr (R.ZV 4 acc (pl r:Nat),rr)):=by show _=_;rw[zq HS];exact seqF_none hk
   have CO:=zk (fun W (bW:Below wr.heap.size wr W)=>theOne_l 4 (pl r:Nat) (by unfold yQ;omega) (zq HQ) (fun g=>w.heap.size<g∧g<W.heap.size) q5 acc.length c5 acc W (fun g hg=>hg.2) ((zq HI).parts rfl bW))
   clear hE hk
   go_wp2_with fail
   refine wp_region_held_drew (S:=(fun w'=>w'.cell? ⟨b,1,none⟩=some (.map (some m))∧w'.heap[m]? =some (.map es clock))) (by kernel_rfl) (⟨q1,hmm⟩) (fun hHeld=> ?_)
   refine tkh 0 ?_ rfl (by kernel_rfl) (fun _ _ _ h=>h) ?_ (by assumption) ?_
   rotate_left
   ·intro w hSw;(try dsimp only at hSw);go_simp;(try with_reducible rfl)
   try simp only[pls]
   refine tkh 1 ?_ rfl (by kernel_rfl) (fun _ _ _ h=>h) ?_ (by assumption) ?_
   rotate_left
   ·intro w hSw;(try dsimp only at hSw);go_simp;(try with_reducible rfl)
   try simp only[pls]
   refine tkh 2 ?_ rfl (by kernel_rfl) (fun _ _ _ h=>h) ?_ (by assumption) ?_
   rotate_left
   ·intro w hSw;(try dsimp only at hSw);go_simp;(try with_reducible rfl)
   try simp only[pls]
   refine tkh 3 ?_ rfl (by kernel_rfl) (fun _ _ _ h=>h) ?_ (by assumption) ?_
   rotate_left
   ·intro w hSw;(try dsimp only at hSw);go_simp;(try with_reducible rfl)
   try simp only[pls]
   refine tkh 4 ?_ rfl (by kernel_rfl) (fun _ _ _ h=>h) ?_ (by assumption) ?_
   rotate_left
   ·intro w hSw;(try dsimp only at hSw);go_simp;(try with_reducible rfl)
   try simp only[pls]
   refine wpAnyH_ready (rs:=[5]) (by kernel_rfl) (by simp) ?_
   refine AllReadyH.cons rfl (fun K hK=> ?_) AllReadyH.nil
   go_simp
   refine(zq CN _ zX).mono ?_;rintro e w2 ⟨v2,rfl,tv2,b2⟩;obtain⟨a2,c2,rfl,-,-⟩:=tv2
   go_wp2_with fail
   refine hK.out _ _ (by obtain⟨h0,h1⟩:=hHeld;exact⟨je b2 rfl h0,Zq b2 rfl h1⟩) (fun hHeld=> ?_)
   clear hK K
   try simp only[pls]
   refine wpAnyH_ready (rs:=[6]) (by kernel_rfl) (by simp) ?_
   refine AllReadyH.cons rfl (fun K hK=> ?_) AllReadyH.nil
   go_simp
   refine(zq CL _ _ _ _).mono ?_;rintro e w3 ⟨rfl,b3⟩
   go_wp2_with fail
   refine hK.out _ _ (by obtain⟨h0,h1⟩:=hHeld;exact⟨je b3 rfl h0,Zq b3 rfl h1⟩) (fun hHeld=> ?_)
   clear hK K
   try simp only[pls]
   refine tkh 7 ?_ rfl (by kernel_rfl) (fun _ _ _ h=>h) ?_ (by assumption) ?_
   rotate_left
   ·intro w hSw;(try dsimp only at hSw);(have hlk:=zq LKU w hSw.2);go_simp;(try with_reducible rfl)
   try simp only[pls]
   refine tkh 8 ?_ rfl (by kernel_rfl) (fun _ _ _ h=>h) ?_ (by assumption) ?_
   rotate_left
   ·intro w hSw;(try dsimp only at hSw);go_simp;(try with_reducible rfl)
   try simp only[pls]
   refine tkh 9 ?_ rfl (by kernel_rfl) (fun _ _ _ h=>h) ?_ (by assumption) ?_
   rotate_left
   ·intro w hSw;(try dsimp only at hSw);go_simp;(try with_reducible rfl)
   try simp only[pls]
   refine tkh 10 ?_ rfl (by kernel_rfl) (fun _ _ _ h=>h) ?_ (by assumption) ?_
   rotate_left
   ·intro w hSw;(try dsimp only at hSw);go_simp;(try with_reducible rfl)
   try simp only[pls]
   refine tkh 11 ?_ rfl (by kernel_rfl) (fun _ _ _ h=>h) ?_ (by assumption) ?_
   rotate_left
   ·intro w hSw;(try dsimp only at hSw);go_simp;(try with_reducible rfl)
   try simp only[pls]
   refine tkh 12 ?_ rfl (by kernel_rfl) (fun _ _ _ h=>h) ?_ (by assumption) ?_
   rotate_left
   ·intro w hSw;(try dsimp only at hSw);go_simp;(try with_reducible rfl)
   try simp only[pls]
   refine wpAnyH_done (by kernel_rfl) ?_ _
   have B3:=zY (zY (zX (k:=1) (w:=wr) (B:=wr.heap.size)) b2) b3
   clear CN CL LKU q1 hmm
   go_wp2_with fail
   refine(zq CO _ B3).mono ?_
   rintro e w4 ⟨v4,rfl,pe4,b4⟩
   clear CO
   have B4:=zY B3 b4
   have PE:=zk pe4
   obtain⟨z1,z2,z3,z4,z5,z6,z7,z8,z9,rfl,-⟩:=pe4.form
   clear pe4
   have hI:=zq HI
   have OUT:w4.heap[w.heap.size]? =some (.cells #[.int .i64 0,.string ⟨#[]⟩,.slice none 0 0,.slice none 0 0,.int .i64 0] 149):=(B4.block _ (Array.getElem?_eq_some_iff.1 hI.out).1).trans hI.out
   obtain⟨⟨y0,y1,y2,y3,y4⟩,k0,k1,k2,k3,k4⟩:=yW OUT
   clear hI
   go_wp2_with fail
   (try simp only[Exit.inBlock,Exit.then])
   have s4:=b4.size
   have X5:=fun(k:Nat) (hk:k≠w.heap.size)=>xQ (W:=w4) hk (.int .i64 z1) (.string z2) (.slice z3 z4 z5) (.slice z6 z7 z8) (.int .i64 z9)
   have KX:KR w4 (((((w4.setCell ⟨w.heap.size,0,none⟩ (.int .i64 z1)).setCell ⟨w.heap.size,1,none⟩ (.string z2)).setCell ⟨w.heap.size,2,none⟩ (.slice z3 z4 z5)).setCell ⟨w.heap.size,3,none⟩ (.slice z6 z7 z8)).setCell ⟨w.heap.size,4,none⟩ (.int .i64 z9)):=fun g' cs fr hk=>by
    rw[X5 g' (yq hk OUT (by decide))];exact hk
   refine bodyPost_ret (v:= .agg #[.int .i64 z1,.string z2,.slice z3 z4 z5,.slice z6 z7 z8,.int .i64 z9]) ?_ rfl (.inl ⟨_,_,rr,zq FIN,rfl,?_,(zq HI).he,by omega,?_,?_⟩)
   ·exact jv rfl rfl (Zj OUT _ _ _ _ _)
   ·refine(zq PE).kept (fun g hg=>⟨⟨by have:=hg.1;omega,by simp;have:=hg.2;omega⟩,X5 g (by have:=hg.1;omega)⟩) KX
   ·exact((zq HI).rd.later B4).kept (X5 b (by omega)) (X5 G (by omega)) KX
   ·exact((((((zq HI).bu.then (Bu.of B4)).setTop (Nat.le_refl _) _ _).setTop (Nat.le_refl _) _ _).setTop (Nat.le_refl _) _ _).setTop (Nat.le_refl _) _ _).setTop (Nat.le_refl _) _ _
theorem altF_stop {grp:List TN→Res PT} {f:Nat} {p0:PT} {acc:List PT} {r:List TN} (h:isS r 124=false):altF grp (f+1) p0 acc r= .inr (R.ZV 5 acc (atP p0),r):=by
 unfold altF;rw[h];rfl
theorem altF_bad {grp:List TN→Res PT} {f:Nat} {p0:PT} {acc:List PT} {r:List TN} {e:Nat×Int} (h:isS r 124=true) (hs:seqL grp r.tail= .inl e):altF grp (f+1) p0 acc r= .inl e:=by
 unfold altF;rw[if_pos h,hs]
theorem altF_more {grp:List TN→Res PT} {f:Nat} {p0 p:PT} {acc:List PT} {r r1:List TN} (h:isS r 124=true) (hs:seqL grp r.tail= .inr (p,r1)):altF grp (f+1) p0 acc r=altF grp f p0 (acc++[p]) r1:=by
 conv=>lhs;unfold altF
 rw[if_pos h,hs]
theorem RowI.first {b G m:Nat} {d:Int} {w w1:World} {r1:List TN} {p:PT} {x0 x1 x2 x3 x4:Value} (hb:b<w.heap.size) (he:Ends r1) (rd:Rd w1 b G r1 m d) (mq:Mq w1 m) (bu:Bu b (w.alloc (.cells #[.int .i64 0,.string ⟨#[]⟩,.slice none 0 0,.slice none 0 0,.int .i64 0] 149)) w1) (hp:PartE (New (w.alloc (.cells #[.int .i64 0,.string ⟨#[]⟩,.slice none 0 0,.slice none 0 0,.int .i64 0] 149)) w1) w1 (.agg #[x0,x1,x2,x3,x4]) p):
  RowI b G m d w [p] r1 (.slice (some ⟨w1.heap.size,0,none⟩) 1 1) [x0,x1,x2,x3,x4] (w1.alloc (.cells #[x0,x1,x2,x3,x4] 149)):=by
 have s1:=bu.size
 rw[World.size_alloc]at s1
 have BN:=Below.new1 (w:=w1) (.cells #[x0,x1,x2,x3,x4] 149)
 refine⟨he,rd.later BN,mq.later BN,⟨rfl,.inr ⟨w1.heap.size,1,#[x0,x1,x2,x3,x4],rfl,by omega,heap_alloc_new _ _,Nat.le_refl _,by unfold maxLen;omega,rfl,rfl⟩⟩,⟨x0,x1,x2,x3,x4,[],rfl,?_,rfl⟩,((Bu.of (Below.new1 _)).then bu).alloc _,zK (bu.at (heap_alloc_new w _) (by omega)) _⟩
 refine hp.kept (fun g hg=>⟨⟨?_,?_,?_⟩,BN.block g hg.2⟩) (KR.of BN)
 ·have:=hg.1;rw[World.size_alloc]at this;omega
 ·have:=hg.2;rw[World.size_alloc];omega
 ·intro e
  simp only[Value.ownBlock,Option.some.injEq]at e
  have:=hg.2
  omega
theorem RowI.head {b G m:Nat} {d:Int} {w wr:World} {p0:PT} {acc:List PT} {rr:List TN} {a:Option Addr} {n c:Nat} {cs:List Value} (h:RowI b G m d w (p0::acc) rr (.slice a n c) cs wr):
  ∃g,a=some ⟨g,0,none⟩∧n=acc.length+1∧n≤c∧c≤maxLen∧wr.cell? ⟨g,4,none⟩=some (.int .i64 (atP p0)):=by
 obtain⟨c0,c1,c2,c3,c4,cs',rfl,hv,-⟩:=h.pts
 obtain⟨y1,y2,y3,y4,y5,y6,y7,y8,y9,ev,eq⟩:=hv.form
 simp only[Value.agg.injEq,Array.mk.injEq,List.cons.injEq,and_true]at ev
 obtain⟨-,-,-,-,rfl⟩:=ev
 rcases h.own.2 with ⟨e,h0⟩|⟨g,cap,cur,e,hb,hg,hn,hm,hs,ht⟩
 ·simp at h0
 ·injection e with e1 e2 e3
  subst e1;subst e3
  refine⟨g,rfl,by rw[e2];rfl,by omega,hm,?_⟩
  have:(c0::c1::c2::c3::Value.int .i64 y9::cs')[4]? =some (Value.int .i64 y9):=rfl
  rw[←ht,List.getElem?_take_of_lt (by simp only[List.length_cons];omega)]at this
  rw[←eq]
  simp only[World.cell?,hg]
  simpa using this
theorem alt_of {dd:Nat} (HSQ:SeqC dd):AltC dd:=by
 intro w b G r m h hr hl hm
 have hbl:=h.lt
 have hGl:=h.ltG
 have HB:∀o,Below w.heap.size w (w.alloc o):=fun o=>Below.new1 o
 have CQ0:=zk (fun W (bW:Below w.heap.size w W)=>HSQ W b G r m (h.later bW) hr hl (hm.later bW))
 have HSQ':=zk HSQ
 have HST:=zk (And.intro h (And.intro hr hm))
 clear h hr hm HSQ
 generalize hd0:dp dd=d0 at*
 have HD0:=zk hd0
 clear hd0
 go_enter Tryz.func154,Tryz.ntmps154
 go_wp2_with fail
 refine(zq CQ0 _ (HB _)).mono ?_
 clear CQ0
 rintro e w1 (⟨v1,p1,r1,eg,rfl,pe1,E1,hl1,rd1,bu1⟩|⟨q1,y1,eg,rfl,bu1⟩)
 case inr=>
  have FIN:Hid (altL (jX dd) r= .inl (q1,y1)):=by show _=_;unfold altL;rw[eg]
  clear eg
  unfold xv
  go_wp2_with fail
  exact⟨rfl,.inr ⟨q1,y1,zq FIN,rfl,(Bu.of (HB _)).then bu1⟩⟩
 have ST:Hid (altL (jX dd) r=altF (jX dd) r.length p1 [p1] r1):=by show _=_;unfold altL;rw[eg]
 have MQ1:Mq w1 m:=((zq HST).2.2.later (HB _)).bu bu1 (((HB _).block b hbl).trans (zq HST).1.cells.choose_spec.1)
 obtain⟨x1,x2,x3,x4,x5,x6,x7,x8,x9,rfl,-⟩:=pe1.form
 have RI:=zk (RowI.first hbl E1 rd1 MQ1 bu1 pe1)
 clear eg pe1 rd1 E1 MQ1 bu1 HST
 go_wp2_with fail
 go_loopw [3] (fun v wr=>Hid (∃(acc:List PT) (p0:PT) (rr:List TN) (f:Nat) (cs:List Value),altL (jX dd) r=altF (jX dd) f p0 (p0::acc) rr∧rr.length≤f∧acc.length+rr.length≤r.length∧RowI b G m d0 w (p0::acc) rr v cs wr)) (fun _ wr=>leftN b wr)
 case atStart=>exact⟨[],p1,r1,r.length,_,zq ST,hl1,by simp;exact hl1,zq RI⟩
 case round=>
  obtain⟨acc,p0,rr,f,cs,hS,hff,hal,hI⟩:=zq hrel
  have HS:=zk hS
  have HI:=zk hI
  obtain⟨q5,c5,rfl⟩:=xu hI.own
  have hE:=hI.he
  have hpos:1≤rr.length:=by cases hq:rr with|nil=>exact absurd hq hE.ne|cons x y=>simp
  obtain⟨f',rfl⟩:∃f',f=f'+1:=⟨f-1,by omega⟩
  have CG:=zk (fun W=>ZW ⟨#[124]⟩ W)
  have CS:=zk (fun W (bW:Below wr.heap.size wr W)=>sees_l W b G rr m d0 (hI.rd.later bW) hE 4 [124] (ye (by omega) (by omega) (fun z hz=>by cases hz)))
  rw[Y2]at CS
  have e124:strOfNums [124]=⟨#[124]⟩:=rfl
  rw[e124]at CS
  clear hrel hS ST RI e124
  cases hs:isS rr 124 with
  |true=>
   rw[hs]at CS
   have hk4:=isS_kd hs
   have E1:=hE.sign hs
   have CT:=zk (fun W (bW:Below wr.heap.size wr W)=>Zz W b G rr m d0 (hI.rd.later bW) hE.ne E1.ne)
   have hrt:=qj hE.ne
   have HK:=zk hs
   have HE1:=zk E1
   have hbr:=hI.rd.lt
   clear hs hk4 hE hI E1
   go_wp2_with fail
   refine(zq CG _).mono ?_
   rintro e w2 ⟨rfl,b2⟩
   clear CG
   go_wp2_with fail
   refine(zq CS _ b2).mono ?_
   rintro e w3 ⟨rfl,b3⟩
   clear CS
   have B3:=zY b2 b3
   go_wp2_with fail
   refine(zq CT _ B3).mono ?_
   rintro e w4 ⟨v4,rfl,tv4,rd4,bu4⟩
   clear CT tv4
   have hI:=zq HI
   have hs3:=B3.size
   have hs4:=bu4.size
   have MQ4:Mq w4 m:=(hI.mq.later B3).bu bu4 ((B3.block b hbr).trans hI.rd.cells.choose_spec.1)
   have CQ:=zk (zq HSQ' w4 b G rr.tail m (by rw[zq HD0];exact rd4) (zq HE1) (by omega) MQ4)
   rw[zq HD0]at CQ
   clear hI MQ4 rd4
   go_wp2_with fail
   refine(zq CQ).mono ?_
   clear CQ
   rintro e w5 (⟨v5,p5,r5,eg,rfl,pe5,E5,hl5,rd5,bu5⟩|⟨q5',y5,eg,rfl,bu5⟩)
   ·have ATN:Hid (altF (jX dd) (f'+1) p0 (p0::acc) rr=altF (jX dd) f' p0 ((p0::acc)++[p5]) r5):=altF_more (zq HK) eg
    have hs5:=bu5.size
    have PE:=zk (pe_new (w3:=w3) (w4:=w4) (w5:=w5) (pe5.kept (fun g hg=>⟨.inr hg,rfl⟩) (KR.refl _)) hs4 hs5)
    obtain⟨x1,x2,x3,x4,x5,x6,x7,x8,x9,rfl,-⟩:=pe5.form
    have HO:=Zx (Zx (j5 B3 (zq HI).own) bu4 (by omega)) bu5 (by omega)
    have hs0:=(zq HI).bu.size
    have BU5:=zk (bu4.then bu5)
    have RD5:=zk rd5
    have HE5:=zk E5
    clear pe5 rd5 bu4 bu5 eg E5
    obtain⟨ti,hi0,hz0,hz1,hz2⟩:=info_parts ZJ
    go_wp2_with (at_builtin;refine wpList_append_lies _ rfl _ _ 147 rfl (w.heap.size+1) 149 ti _ 5 80 Tryz.underlying147 hi0 hz0 hz1 hz2 rfl (by omega) _ _ _ rfl (HO.alloc _) ⟨w5.heap.size,0,none⟩ 1 1 [.int .i64 x1,.string x2,.slice x3 x4 x5,.slice x6 x7 x8,.int .i64 x9] rfl rfl (YX _ _ _ _ _ _ _ rfl) (by simp[Value.oneCell']) (by omega) (by unfold maxLen;simp;omega) (by simp;omega) (by simp;omega) (w5.heap.size+1) (by simp) ?_;intro gg cap1 w6 hown1 hgrow hat hlt1)
    have NI:=RowI.snoc (zq HI) hbl hGl B3 (zq BU5) (zq HE5) (zq RD5) (zq PE) hown1 hgrow (by rcases hat with h|h;exact .inl h;exact .inr (by simp[h]))
    have NI':=zk NI
    clear hgrow hat hlt1 hown1 HO
    (try go_wp2_with fail)
    go_roundw
    case rel=>
     refine⟨acc++[p5],p0,r5,f',_,?_,?_,?_,zq NI'⟩
     ·rw[zq HS,zq ATN];rfl
     ·omega
     ·rw[List.length_append,List.length_singleton];omega
    case measure=>
     rw[(zq NI').rd.left,(zq HI).rd.left]
     omega
   ·have FIN:Hid (altL (jX dd) r= .inl (q5',y5)):=by show _=_;rw[zq HS];exact altF_bad (zq HK) eg
    have BF:=zk ((((zq HI).bu.then (Bu.of B3)).then bu4).then bu5)
    clear eg
    unfold xv
    go_wp2_with fail
    exact⟨rfl,.inr ⟨q5',y5,zq FIN,rfl,zq BF⟩⟩
  |false=>
   rw[hs]at CS
   have FIN:Hid (altL (jX dd) r= .inr (R.ZV 5 (p0::acc) (atP p0),rr)):=by show _=_;rw[zq HS];exact altF_stop hs
   obtain⟨g5,rfl,hn5,hc5,hm5,cat⟩:=hI.head
   unfold maxLen at hm5
   have hfq:yQ (atP p0):=by
    obtain⟨c0,c1,c2,c3,c4,cs',-,hv,-⟩:=hI.pts
    exact hv.fitsQ
   have CO:=zk (fun W (bW:Below wr.heap.size wr W)=>theOne_l 5 (atP p0) (by unfold yQ;omega) hfq (fun g=>w.heap.size<g∧g<W.heap.size) (some ⟨g5,0,none⟩) (p0::acc).length c5 (p0::acc) W (fun g hg=>hg.2) ((zq HI).parts rfl bW))
   have CAT:=zk (fun W (bW:Below wr.heap.size wr W)=>(bW.cell (zJ cat)).trans cat)
   have hbr:=hI.rd.lt
   simp only[List.length_cons]at CO hc5⊢
   clear hs hE hI cat hfq
   go_wp2_with fail
   refine(zq CG _).mono ?_
   rintro e w2 ⟨rfl,b2⟩
   clear CG
   go_wp2_with fail
   refine(zq CS _ b2).mono ?_
   rintro e w3 ⟨rfl,b3⟩
   clear CS
   have B3:=zY b2 b3
   have cat3:=zq CAT _ B3
   clear CAT
   go_wp2_with fail
   refine(zq CO _ B3).mono ?_
   rintro e w4 ⟨v4,rfl,pe4,b4⟩
   clear CO
   have B4:=zY B3 b4
   have PE:=zk pe4
   obtain⟨z1,z2,z3,z4,z5,z6,z7,z8,z9,rfl,-⟩:=pe4.form
   clear pe4
   have hI:=zq HI
   have OUT:w4.heap[w.heap.size]? =some (.cells #[.int .i64 0,.string ⟨#[]⟩,.slice none 0 0,.slice none 0 0,.int .i64 0] 149):=(B4.block _ (Array.getElem?_eq_some_iff.1 hI.out).1).trans hI.out
   obtain⟨⟨y0,y1,y2,y3,y4⟩,k0,k1,k2,k3,k4⟩:=yW OUT
   clear hI
   go_wp2_with fail
   (try simp only[Exit.inBlock,Exit.then])
   have s4:=b4.size
   have X5:=fun(k:Nat) (hk:k≠w.heap.size)=>xQ (W:=w4) hk (.int .i64 z1) (.string z2) (.slice z3 z4 z5) (.slice z6 z7 z8) (.int .i64 z9)
   have KX:KR w4 (((((w4.setCell ⟨w.heap.size,0,none⟩ (.int .i64 z1)).setCell ⟨w.heap.size,1,none⟩ (.string z2)).setCell ⟨w.heap.size,2,none⟩ (.slice z3 z4 z5)).setCell ⟨w.heap.size,3,none⟩ (.slice z6 z7 z8)).setCell ⟨w.heap.size,4,none⟩ (.int .i64 z9)):=fun g' cs fr hk=>by
    rw[X5 g' (yq hk OUT (by decide))];exact hk
   refine bodyPost_ret (v:= .agg #[.int .i64 z1,.string z2,.slice z3 z4 z5,.slice z6 z7 z8,.int .i64 z9]) ?_ rfl (.inl ⟨_,_,rr,zq FIN,rfl,?_,(zq HI).he,by omega,?_,?_⟩)
   ·exact jv rfl rfl (Zj OUT _ _ _ _ _)
   ·refine(zq PE).kept (fun g hg=>⟨⟨by have:=hg.1;omega,by simp;have:=hg.2;omega⟩,X5 g (by have:=hg.1;omega)⟩) KX
   ·exact((zq HI).rd.later B4).kept (X5 b (by omega)) (X5 G (by omega)) KX
   ·exact((((((zq HI).bu.then (Bu.of B4)).setTop (Nat.le_refl _) _ _).setTop (Nat.le_refl _) _ _).setTop (Nat.le_refl _) _ _).setTop (Nat.le_refl _) _ _).setTop (Nat.le_refl _) _ _
theorem Rd.deep {w:World} {b G:Nat} {r:List TN} {m:Nat} {d:Int} (h:Rd w b G r m d) (d':Int):Rd (w.setCell ⟨b,2,none⟩ (.int .i64 d')) b G r m d':=by
 obtain⟨v,h1,hl⟩:=h
 exact⟨v,by have:=heap_setCell_same w b 2 _ _ (.int .i64 d') h1;simpa using this,Lf.bu (Bu.set b 2 w _) h1 hl⟩
theorem grp_zero:GrpC 0:=by
 intro w b G r m h hr hs hl hm
 have hbl:=h.lt
 have E1:=hr.sign hs
 have HB:∀o,Below w.heap.size w (w.alloc o):=fun o=>Below.new1 o
 have CT:=zk (fun W (bW:Below w.heap.size w W)=>Zz W b G r m (dp 0) (h.later bW) hr.ne E1.ne)
 clear h hr hs hm E1
 go_enter Tryz.func148,Tryz.ntmps148
 go_wp2_with fail
 refine(zq CT _ (HB _)).mono ?_
 rintro e w1 ⟨v1,rfl,⟨a1,c1,rfl,-,-⟩,rd1,bu1⟩
 clear CT
 obtain⟨rc,hrc,-,q2,-⟩:=rd1.cells
 have q2':∀o,(w1.alloc o).cell? ⟨b,2,none⟩=some (.int .i64 12):=fun o=>((Below.new1 o).cell (zJ q2)).trans q2
 clear q2 hrc
 go_wp2_with fail
 exact⟨rfl,.inr ⟨pl r,4,rfl,rfl,((Bu.of (HB _)).then bu1).alloc _⟩⟩
theorem close_yes {x:Res PT} {p:PT} {r:List TN} (h:x= .inr (p,r)) (hs:isS r 41=true):closeL x= .inr (p,r.tail):=by
 rw[h];unfold closeL;simp only;rw[if_pos hs]
theorem close_no {x:Res PT} {p:PT} {r:List TN} (h:x= .inr (p,r)) (hs:isS r 41=false):closeL x= .inl (pl r,3):=by
 rw[h];unfold closeL;simp only;rw[hs];rfl
theorem close_bad {x:Res PT} {e:Nat×Int} (h:x= .inl e):closeL x= .inl e:=by
 rw[h];rfl
theorem grp_succ {dd:Nat} (hdd:dd<12) (HAL:AltC dd):GrpC (dd+1):=by
 intro w b G r m h hr hs hl hm
 have hbl:=h.lt
 have hGl:=h.ltG
 have E1:=hr.sign hs
 have hrt:=qj hr.ne
 have HB:∀o,Below w.heap.size w (w.alloc o):=fun o=>Below.new1 o
 have CT:=zk (fun W (bW:Below w.heap.size w W)=>Zz W b G r m (dp (dd+1)) (h.later bW) hr.ne E1.ne)
 have e0:dp dd=dp (dd+1)+1:=by unfold dp;omega
 have hd1:0≤dp (dd+1)∧dp (dd+1)≤11:=by unfold dp;omega
 have CA:=zk (fun W (k1:Rd W b G r.tail m (dp dd)) (k2:Mq W m)=>HAL W b G r.tail m k1 E1 (by omega) k2)
 rw[e0]at CA
 have HM:=zk hm
 have HRC:=zk h.cells
 clear h hr hs hm E1 HAL e0
 generalize dp (dd+1)=D1 at*
 obtain⟨hd1,hd2⟩:=hd1
 have n12:(D1==12)=false:=beq_eq_false_iff_ne.2 (by omega)
 go_enter Tryz.func148,Tryz.ntmps148
 go_wp2_with fail
 refine(zq CT _ (HB _)).mono ?_
 rintro e w1 ⟨v1,rfl,⟨a1,c1,rfl,-,-⟩,rd1,bu1⟩
 clear CT
 obtain⟨rc,hrc,-,q2,f2⟩:=rd1.cells
 have hb1:=rd1.lt
 have q2':∀o,(w1.alloc o).cell? ⟨b,2,none⟩=some (.int .i64 D1):=fun o=>((Below.new1 o).cell (zJ q2)).trans q2
 have MQ1:Mq w1 m:=((zq HM).later (HB _)).bu bu1 (((HB _).block b hbl).trans (zq HRC).choose_spec.1)
 have OUT1:=bu1.at (heap_alloc_new w _) (show w.heap.size≠b by omega)
 have HO1:=zk OUT1
 have s1:w.heap.size<w1.heap.size:=(Array.getElem?_eq_some_iff.1 OUT1).1
 have BU1:=zk ((Bu.of (HB _)).then bu1)
 have RD1:=zk rd1
 have HMQ1:=zk MQ1
 have HRC1:=zk hrc
 clear HM HRC MQ1 OUT1 bu1 rd1 hrc
 go_wp2_with fail
 generalize hWW:(w1.setCell ⟨b,2,none⟩ (.int .i64 (D1+1))).alloc (.cells #[.int .i64 (kd r),.string (strOfNums (tx r)),.slice a1 (rg r).length c1,.int .i64 (pl r:Nat)] 135)=WW at*
 have RDW:Rd WW b G r.tail m (D1+1):=by rw[←hWW];exact((zq RD1).deep _).later (Below.new1 _)
 have MQW:Mq WW m:=by rw[←hWW];exact((zq HMQ1).bu (Bu.set b 2 w1 _) (zq HRC1)).later (Below.new1 _)
 have BUW:Bu b w WW:=by rw[←hWW];exact((zq BU1).setOwn _ _).alloc _
 have OUTW:WW.heap[w.heap.size]? =some (.cells #[.int .i64 0,.string ⟨#[]⟩,.slice none 0 0,.slice none 0 0,.int .i64 0] 149):=by rw[←hWW];exact zK (zw (zq HO1) (by omega) _) _
 have CB:=zk (zq CA _ RDW MQW)
 have htl:r.tail.length=r.length-1:=List.length_tail
 clear CA q2' q2 f2 HO1 BU1 RD1 HMQ1 HRC1 hWW RDW MQW n12 hb1 s1
 have sW:w.heap.size<WW.heap.size:=(Array.getElem?_eq_some_iff.1 OUTW).1
 refine(zq CB).mono ?_
 clear CB
 rintro e w3 (⟨v3,p3,r3,eg,rfl,pe3,E3,hl3,rd3,bu3⟩|⟨q3,y3,eg,rfl,bu3⟩)
 case inr=>
  have FIN:Hid (jX (dd+1) r= .inl (q3,y3)):=by show _=_;unfold jX;exact close_bad eg
  clear eg
  unfold xv
  go_wp2_with fail
  exact⟨rfl,.inr ⟨q3,y3,zq FIN,rfl,BUW.then bu3⟩⟩
 have OUT3:=bu3.at OUTW (show w.heap.size≠b by omega)
 have s3:=bu3.size
 have PE:=zk pe3
 obtain⟨x1,x2,x3,x4,x5,x6,x7,x8,x9,rfl,-⟩:=pe3.form
 have BU3:=zk (BUW.then bu3)
 have CG:=zk (fun W=>ZW ⟨#[41]⟩ W)
 have h41:U.zv [41]:=ye (by omega) (by omega) (fun z hz=>by cases hz)
 have e41:strOfNums [41]=⟨#[41]⟩:=rfl
 have HB3:∀o,Below w3.heap.size w3 (w3.alloc o):=fun o=>Below.new1 o
 have HE3:=zk E3
 have HRD3:=zk rd3
 have hb3:=rd3.lt
 have hG3:=rd3.ltG
 cases hs:isS r3 41 with
 |false=>
  have FIN:Hid (jX (dd+1) r= .inl (pl r3,3)):=by show _=_;unfold jX;exact close_no eg hs
  have CN:=zk (fun W (bW:Below w3.heap.size w3 W)=>need_no W b G r3 m (D1+1) (rd3.later bW) E3 4 [41] h41 (fun c=>by have:=Y2 r3 41;rw[hs,decide_eq_true c]at this;cases this))
  rw[e41]at CN
  clear eg hs pe3 E3 rd3 bu3
  go_wp2_with fail
  refine(zq CG _).mono ?_
  rintro e w4 ⟨rfl,b4⟩
  clear CG
  go_wp2_with fail
  refine(zq CN _ (zY (HB3 _) b4)).mono ?_
  rintro e w5 ⟨rfl,bu5⟩
  clear CN
  unfold xv
  go_wp2_with fail
  exact⟨rfl,.inr ⟨pl r3,3,zq FIN,rfl,((zq BU3).then (Bu.of (zY (HB3 _) b4))).then bu5⟩⟩
 |true=>
  have FIN:Hid (jX (dd+1) r= .inr (p3,r3.tail)):=by show _=_;unfold jX;exact close_yes eg hs
  have E4:=E3.sign hs
  have hr4:=qj E3.ne
  have CN:=zk (fun W (bW:Below w3.heap.size w3 W)=>YQ W b G r3 m (D1+1) (rd3.later bW) E3 E4.ne 4 [41] h41 (of_decide_eq_true ((Y2 r3 41).trans hs)))
  rw[e41]at CN
  have HE4:=zk E4
  clear eg hs pe3 E3 rd3 bu3 E4
  go_wp2_with fail
  refine(zq CG _).mono ?_
  rintro e w4 ⟨rfl,b4⟩
  clear CG
  have B4:=zY (HB3 _) b4
  have P4:=ze b4
  go_wp2_with fail
  refine(zq CN _ B4).mono ?_
  rintro e w5 ⟨v5,rfl,tv5,rd5,bu5⟩
  clear CN tv5
  have P5:=bu5.at P4 (show w3.heap.size≠b by omega)
  have OUT5:=bu5.at ((B4.block _ (Array.getElem?_eq_some_iff.1 OUT3).1).trans OUT3) (show w.heap.size≠b by omega)
  obtain⟨rc5,hrc5,-,q2,f2⟩:=rd5.cells
  have s4:=B4.size
  have s5:=bu5.size
  obtain⟨⟨y0,y1,y2,y3,y4⟩,k0,k1,k2,k3,k4⟩:=yW OUT5
  obtain⟨⟨m0,m1,m2,m3,m4⟩,-⟩:=yW P5
  have nP:w3.heap.size≠b:=by omega
  have nO:w.heap.size≠b:=by omega
  have mm:∀u i,(w5.setCell ⟨b,2,none⟩ u).cell? ⟨w3.heap.size,i,none⟩=w5.cell? ⟨w3.heap.size,i,none⟩:=fun u i=>World.cell?_of_block (Below.heap_setCell w5 ⟨b,2,none⟩ u _ nP)
  have yy:∀u i,(w5.setCell ⟨b,2,none⟩ u).cell? ⟨w.heap.size,i,none⟩=w5.cell? ⟨w.heap.size,i,none⟩:=fun u i=>World.cell?_of_block (Below.heap_setCell w5 ⟨b,2,none⟩ u _ nO)
  go_wp2_with fail
  (try simp only[Exit.inBlock,Exit.then])
  have hI5:(w5.setCell ⟨b,2,none⟩ (.int .i64 D1)).heap[w.heap.size]? =some (.cells #[.int .i64 0,.string ⟨#[]⟩,.slice none 0 0,.slice none 0 0,.int .i64 0] 149):=zw OUT5 nO _
  have X5:=fun(k:Nat) (hk:k≠w.heap.size)=>xQ (W:=w5.setCell ⟨b,2,none⟩ (.int .i64 D1)) hk (.int .i64 x1) (.string x2) (.slice x3 x4 x5) (.slice x6 x7 x8) (.int .i64 x9)
  have KX:KR (w5.setCell ⟨b,2,none⟩ (.int .i64 D1)) ((((((w5.setCell ⟨b,2,none⟩ (.int .i64 D1)).setCell ⟨w.heap.size,0,none⟩ (.int .i64 x1)).setCell ⟨w.heap.size,1,none⟩ (.string x2)).setCell ⟨w.heap.size,2,none⟩ (.slice x3 x4 x5)).setCell ⟨w.heap.size,3,none⟩ (.slice x6 x7 x8)).setCell ⟨w.heap.size,4,none⟩ (.int .i64 x9)):=fun g' cs fr hk=>by
   rw[X5 g' (yq hk hI5 (by decide))];exact hk
  obtain⟨rc3,hrc3,-⟩:=(zq HRD3).cells
  have KA:KR w3 (w5.setCell ⟨b,2,none⟩ (.int .i64 D1)):=((KR.of B4).then (KR.bu bu5 ((B4.block b hb3).trans hrc3) (by decide))).set hrc5 (by decide) _ _
  refine bodyPost_ret (v:= .agg #[.int .i64 x1,.string x2,.slice x3 x4 x5,.slice x6 x7 x8,.int .i64 x9]) ?_ rfl (.inl ⟨_,p3,r3.tail,zq FIN,rfl,?_,zq HE4,by omega,?_,?_⟩)
  ·exact jv rfl rfl (Zj hI5 _ _ _ _ _)
  ·refine(zq PE).kept (fun g hg=>⟨⟨by have:=hg.1;omega,by simp;have:=hg.2;omega⟩,?_⟩) (KA.then KX)
   obtain⟨g1,g2⟩:=hg
   rw[X5 g (by omega),Below.heap_setCell w5 ⟨b,2,none⟩ _ g (show g≠b by omega),bu5.block g (by omega) (fun e=>by injection e;omega),B4.block g g2]
  ·exact(rd5.deep _).kept (X5 b (by omega)) (X5 G (by omega)) KX
  ·exact(((((((((zq BU3).then (Bu.of B4)).then bu5).setOwn _ _).setTop (Nat.le_refl _) _ _).setTop (Nat.le_refl _) _ _).setTop (Nat.le_refl _) _ _).setTop (Nat.le_refl _) _ _).setTop (Nat.le_refl _) _ _)
theorem all_c:∀d,d≤12→GrpC d∧AltC d:=by
 intro d
 induction d with
 |zero=>intro _;exact⟨grp_zero,alt_of (seq_of grp_zero)⟩
 |succ d ih=>
  intro h
  have g:=grp_succ (by omega) (ih (by omega)).2
  exact⟨g,alt_of (seq_of g)⟩
theorem alt_c:AltC 12:=(all_c 12 (Nat.le_refl _)).2
theorem Ya {x y:List Int} (hx:U.zv x) (hy:U.zv y) {l:List UInt8} (hl:(strOfNums y).toList=l):((strOfNums x).toList==l)=decide (x=y):=by
 rw[←hl]
 exact str_eq_list (St.of hx) (St.of hy)
theorem yJ {l:List Int} (h:l.all (fun z=>decide (0≤z)&&decide (z≤255))=true):U.zv l:=by
 intro z hz
 have:=List.all_eq_true.1 h z hz
 simp at this
 exact this
theorem m0_lit:(strOfNums [108,111,110,103]).toList=[108,111,110,103]:=by decide+kernel
theorem m1_lit:(strOfNums [114,101,115]).toList=[114,101,115]:=by decide+kernel
theorem m2_lit:(strOfNums [111,102,102]).toList=[111,102,102]:=by decide+kernel
theorem m3_lit:(strOfNums [98,108,111,99,107]).toList=[98,108,111,99,107]:=by decide+kernel
theorem m4_lit:(strOfNums [97,108,105,103,110]).toList=[97,108,105,103,110]:=by decide+kernel
theorem m5_lit:(strOfNums [115,121,110,99]).toList=[115,121,110,99]:=by decide+kernel
theorem markBit_l (x:List Int) (hx:U.zv x) (w:World):
  Calls Tryz.prog 196 #[.string (strOfNums x)] w fun e w'=>e= .returned (.int .i64 (bitOf x:Nat))∧Below w.heap.size w w':=by
 have s0:=Ya hx (y:=[108,111,110,103]) (yJ (by decide)) m0_lit
 have s1:=Ya hx (y:=[114,101,115]) (yJ (by decide)) m1_lit
 have s2:=Ya hx (y:=[111,102,102]) (yJ (by decide)) m2_lit
 have s3:=Ya hx (y:=[98,108,111,99,107]) (yJ (by decide)) m3_lit
 have s4:=Ya hx (y:=[97,108,105,103,110]) (yJ (by decide)) m4_lit
 have s5:=Ya hx (y:=[115,121,110,99]) (yJ (by decide)) m5_lit
 unfold bitOf
 by_cases h0:x=[108,111,110,103]
 ·rw[if_pos h0]
  rw[decide_eq_true h0]at s0
  clear h0 hx
  clear s1 s2 s3 s4 s5
  generalize strOfNums x=S at*
  go_enter Tryz.func196,Tryz.ntmps196
  go_wp2_with fail
  go_ret
  exact⟨rfl,Below.refl _ _⟩
 rw[if_neg h0]
 rw[decide_eq_false h0]at s0
 clear h0
 by_cases h1:x=[114,101,115]
 ·rw[if_pos h1]
  rw[decide_eq_true h1]at s1
  clear h1 hx
  clear s2 s3 s4 s5
  generalize strOfNums x=S at*
  go_enter Tryz.func196,Tryz.ntmps196
  go_wp2_with fail
  go_ret
  exact⟨rfl,Below.refl _ _⟩
 rw[if_neg h1]
 rw[decide_eq_false h1]at s1
 clear h1
 by_cases h2:x=[111,102,102]
 ·rw[if_pos h2]
  rw[decide_eq_true h2]at s2
  clear h2 hx
  clear s3 s4 s5
  generalize strOfNums x=S at*
  go_enter Tryz.func196,Tryz.ntmps196
  go_wp2_with fail
  go_ret
  exact⟨rfl,Below.refl _ _⟩
 rw[if_neg h2]
 rw[decide_eq_false h2]at s2
 clear h2
 by_cases h3:x=[98,108,111,99,107]
 ·rw[if_pos h3]
  rw[decide_eq_true h3]at s3
  clear h3 hx
  clear s4 s5
  generalize strOfNums x=S at*
  go_enter Tryz.func196,Tryz.ntmps196
  go_wp2_with fail
  go_ret
  exact⟨rfl,Below.refl _ _⟩
 rw[if_neg h3]
 rw[decide_eq_false h3]at s3
 clear h3
 by_cases h4:x=[97,108,105,103,110]
 ·rw[if_pos h4]
  rw[decide_eq_true h4]at s4
  clear h4 hx
  clear s5
  generalize strOfNums x=S at*
  go_enter Tryz.func196,Tryz.ntmps196
  go_wp2_with fail
  go_ret
  exact⟨rfl,Below.refl _ _⟩
 rw[if_neg h4]
 rw[decide_eq_false h4]at s4
 clear h4
 by_cases h5:x=[115,121,110,99]
 ·rw[if_pos h5]
  rw[decide_eq_true h5]at s5
  clear h5 hx
  generalize strOfNums x=S at*
  go_enter Tryz.func196,Tryz.ntmps196
  go_wp2_with fail
  go_ret
  exact⟨rfl,Below.refl _ _⟩
 rw[if_neg h5]
 rw[decide_eq_false h5]at s5
 clear h5
 clear hx
 generalize strOfNums x=S at*
 go_enter Tryz.func196,Tryz.ntmps196
 go_wp2_with fail
 go_ret
 exact⟨rfl,Below.refl _ _⟩
theorem marksF_yes {f k:Nat} {r:List TN} (h:kd r=5):Yu (f+1) k r=Yu f (k|||bitOf (tx r)) r.tail:=by
 conv=>lhs;unfold Yu
 rw[if_pos h]
theorem marksF_no {f k:Nat} {r:List TN} (h:kd r≠5):Yu (f+1) k r=(k,r):=by
 unfold Yu
 rw[if_neg h]
theorem bit_le (x:List Int):bitOf x≤63:=by
 unfold bitOf
 repeat' split
 all_goals omega
theorem or_lt {a b:Nat} (ha:a≤63) (hb:b≤63):a|||b≤63:=by
 have:=Nat.or_lt_two_pow (n:=6) (x:=a) (y:=b) (by omega) (by omega)
 omega
theorem or_bits:∀a b:Fin 64,bits .or .i64 (a.val:Int) (b.val:Int)=((a.val|||b.val:Nat):Int):=by decide+kernel
theorem or_int {a b:Nat} (ha:a≤63) (hb:b≤63):bits .or .i64 (a:Int) (b:Int)=((a|||b:Nat):Int):=or_bits ⟨a,by omega⟩ ⟨b,by omega⟩
theorem marks_l (w:World) (b G:Nat) (r:List TN) (m:Nat) (d:Int) (h:Rd w b G r m d) (hr:Ends r):
  Calls Tryz.prog 153 #[.pointer (some ⟨b,0,none⟩)] w fun e w'=>e= .returned (.int .i64 ((jZ r).1:Nat))∧(jZ r).1≤63∧Ends (jZ r).2∧(jZ r).2.length≤r.length∧Rd w' b G (jZ r).2 m d∧Bu b w w':=by
 have HST:=zk (And.intro h hr)
 clear h hr
 go_enter Tryz.func153,Tryz.ntmps153
 go_wp2_with fail
 go_loopw [3] (fun v wr=>∃k:Nat,v= .int .i64 (k:Int)∧k≤63∧Hid (∃(rr:List TN) (f:Nat),jZ r=Yu f k rr∧rr.length≤f∧rr.length≤r.length∧Ends rr∧Rd wr b G rr m d∧Bu b w wr)) (fun _ wr=>leftN b wr)
 case atStart=>exact⟨0,rfl,by omega,r,r.length,rfl,Nat.le_refl _,Nat.le_refl _,(zq HST).2,(zq HST).1,Bu.refl _ _⟩
 case round=>
  obtain⟨k,rfl,hk,hq⟩:=hrel
  obtain⟨rr,f,hS,hff,hrl,hE,rd,bu⟩:=zq hq
  have hpos:1≤rr.length:=by cases hq:rr with|nil=>exact absurd hq hE.ne|cons x y=>simp
  obtain⟨f',rfl⟩:∃f',f=f'+1:=⟨f-1,by omega⟩
  have CS:=zk (sees_l wr b G rr m d rd hE 5 [] (fun z hz=>by cases hz))
  rw[Y5 rr 5 (by decide)]at CS
  have e5:strOfNums []=⟨#[]⟩:=rfl
  rw[e5]at CS
  have HS:=zk hS
  have HRD:=zk rd
  have HE:=zk hE
  have HBU:=zk bu
  by_cases h5:kd rr=5
  ·rw[decide_eq_true h5]at CS
   have E1:=hE.tail (by rw[h5];decide)
   have hrt:=qj hE.ne
   have CT:=zk (fun W (bW:Below wr.heap.size wr W)=>Zz W b G rr m d (rd.later bW) hE.ne E1.ne)
   have CM:=zk (fun W=>markBit_l (tx rr) hE.bytes W)
   have hor:=or_int hk (bit_le (tx rr))
   have hol:=or_lt hk (bit_le (tx rr))
   have STEP:Hid (jZ r=Yu f' (k|||bitOf (tx rr)) rr.tail):=hS.trans (marksF_yes h5)
   have HE1:=zk E1
   have hf:=tok_field1
   clear h5 hE rd hS E1 hq e5 bu
   go_wp2_with fail
   refine(zq CS).mono ?_
   rintro e w1 ⟨rfl,b1⟩
   clear CS
   go_wp2_with fail
   refine(zq CT _ b1).mono ?_
   rintro e w2 ⟨v2,rfl,⟨a2,c2,rfl,-,-⟩,rd2,bu2⟩
   clear CT
   go_wp2_with fail
   refine(zq CM _).mono ?_
   rintro e w3 ⟨rfl,b3⟩
   clear CM
   have RD3:=rd2.later b3
   go_wp2_with fail
   go_roundw
   case rel=>exact⟨k|||bitOf (tx rr),by first|rfl|rw[hor],hol,rr.tail,f',zq STEP,by omega,by omega,zq HE1,RD3,(((zq HBU).then (Bu.of b1)).then bu2).then (Bu.of b3)⟩
   case measure=>rw[RD3.left,(zq HRD).left];exact hrt
  ·rw[decide_eq_false h5]at CS
   have FIN:Hid (jZ r=(k,rr)):=hS.trans (marksF_no h5)
   clear h5 hE rd hS hq e5 bu
   go_wp2_with fail
   refine(zq CS).mono ?_
   rintro e w1 ⟨rfl,b1⟩
   clear CS
   go_wp2_with fail
   go_ret
   rw[zq FIN]
   exact⟨rfl,hk,zq HE,hrl,(zq HRD).later b1,(zq HBU).then (Bu.of b1)⟩
def NRES (b G m:Nat) (d:Int) (n:Nat) (w:World) (x:Res (List (Int×Int))) (e:Ending) (w':World):Prop:=
 (∃a c N r',x= .inr (N,r')∧e= .returned (.slice a N.length c)∧Rs w' a N.length c N∧Ty w' a∧Ends r'∧r'.length≤n∧Rd w' b G r' m d∧Bu b w w')∨(∃q why,x= .inl (q,why)∧e=xv q why∧Bu b w w')
theorem not_l (w:World) (b G:Nat) (r:List TN) (m:Nat) (d:Int) (h:Rd w b G r m d) (hr:Ends r):
  Calls Tryz.prog 155 #[.pointer (some ⟨b,0,none⟩)] w (NRES b G m d r.length w (notL r)):=by
 have CG:=zk (fun W=>ZW ⟨#[47]⟩ W)
 have CS:=zk (fun W (bW:Below w.heap.size w W)=>sees_l W b G r m d (h.later bW) hr 4 [47] (yJ (by decide)))
 rw[Y2]at CS
 have e47:strOfNums [47]=⟨#[47]⟩:=rfl
 rw[e47]at CS
 have hbl:=h.lt
 cases hs:isS r 47 with
 |false=>
  rw[hs]at CS
  have FIN:Hid (notL r= .inr ([],r)):=by show _=_;unfold notL;rw[hs];rfl
  have HST:=zk (And.intro h hr)
  clear h hr hs e47
  go_enter Tryz.func155,Tryz.ntmps155
  go_wp2_with fail
  refine(zq CG _).mono ?_
  rintro e w1 ⟨rfl,b1⟩
  clear CG
  go_wp2_with fail
  refine(zq CS _ b1).mono ?_
  rintro e w2 ⟨rfl,b2⟩
  clear CS
  have B2:=zY b1 b2
  go_wp2_with fail
  go_ret
  exact .inl ⟨none,0,[],r,zq FIN,rfl,Rs.nil _,Ty.nil _,(zq HST).2,Nat.le_refl _,(zq HST).1.later B2,Bu.of B2⟩
 |true=>
  rw[hs]at CS
  have E1:=hr.sign hs
  have hrt:=qj hr.ne
  have CT:=zk (fun W (bW:Below w.heap.size w W)=>Zz W b G r m d (h.later bW) hr.ne E1.ne)
  have e0:strOfNums []=⟨#[]⟩:=rfl
  by_cases h2:kd r.tail=2
  ·have FIN:Hid (notL r= .inr (rg r.tail,r.tail.tail)):=by show _=_;unfold notL;rw[hs,if_pos h2];rfl
   have E2:=E1.tail (by rw[h2];decide)
   have hrt2:=qj E1.ne
   have CN:=zk (fun W (k:Rd W b G r.tail m d)=>YQ W b G r.tail m d k E1 E2.ne 2 [] (fun z hz=>by cases hz) (of_decide_eq_true ((Y5 r.tail 2 (by decide)).trans (decide_eq_true h2))))
   rw[e0]at CN
   have HE2:=zk E2
   have hf:=tok_field2
   clear h hr hs e47 e0 E1 E2 h2
   go_enter Tryz.func155,Tryz.ntmps155
   go_wp2_with fail
   refine(zq CG _).mono ?_
   rintro e w1 ⟨rfl,b1⟩
   clear CG
   go_wp2_with fail
   refine(zq CS _ b1).mono ?_
   rintro e w2 ⟨rfl,b2⟩
   clear CS
   have B2:=zY b1 b2
   go_wp2_with fail
   refine(zq CT _ B2).mono ?_
   rintro e w3 ⟨v3,rfl,tv3,rd3,bu3⟩
   clear CT tv3
   go_wp2_with fail
   refine(zq CN _ rd3).mono ?_
   rintro e w4 ⟨v4,rfl,⟨a4,c4,rfl,hrs,hys⟩,rd4,bu4⟩
   clear CN
   go_wp2_with fail
   go_ret
   exact .inl ⟨a4,c4,rg r.tail,r.tail.tail,zq FIN,rfl,hrs,hys,zq HE2,by omega,rd4,((Bu.of B2).then bu3).then bu4⟩
  ·have FIN:Hid (notL r= .inl (pl r.tail,3)):=by show _=_;unfold notL;rw[hs,if_neg h2];rfl
   have CN:=zk (fun W (k:Rd W b G r.tail m d)=>need_no W b G r.tail m d k E1 2 [] (fun z hz=>by cases hz) (fun c=>by have:=Y5 r.tail 2 (by decide);rw[decide_eq_true c,decide_eq_false h2]at this;cases this))
   rw[e0]at CN
   clear h hr hs e47 e0 E1 h2
   go_enter Tryz.func155,Tryz.ntmps155
   go_wp2_with fail
   refine(zq CG _).mono ?_
   rintro e w1 ⟨rfl,b1⟩
   clear CG
   go_wp2_with fail
   refine(zq CS _ b1).mono ?_
   rintro e w2 ⟨rfl,b2⟩
   clear CS
   have B2:=zY b1 b2
   go_wp2_with fail
   refine(zq CT _ B2).mono ?_
   rintro e w3 ⟨v3,rfl,tv3,rd3,bu3⟩
   clear CT tv3
   go_wp2_with fail
   refine(zq CN _ rd3).mono ?_
   rintro e w4 ⟨rfl,bu4⟩
   clear CN
   unfold xv
   go_wp2_with fail
   exact⟨rfl,.inr ⟨pl r.tail,3,zq FIN,rfl,((Bu.of B2).then bu3).then bu4⟩⟩
def Ss (D:Nat→Prop) (w:World) (a:Option Addr) (len cap:Nat) (ks:List (List Int)):Prop:=
 ks.length=len∧len≤cap∧cap≤maxLen∧(∀k∈ks,U.zv k)∧∀(j:Nat) (k:List Int),ks[j]? =some k→∃g off,a=some ⟨g,off,none⟩∧D g∧w.cell? ⟨g,off+j,none⟩=some (.string (strOfNums k))
theorem Ss.kept {D D':Nat→Prop} {w X:World} {a:Option Addr} {len cap:Nat} {ks:List (List Int)} (h:Ss D w a len cap ks) (k:∀g,D g→D' g∧X.heap[g]? =w.heap[g]?):Ss D' X a len cap ks:=by
 obtain⟨h1,h2,h3,h4,h5⟩:=h
 refine⟨h1,h2,h3,h4,fun j x hx=> ?_⟩
 obtain⟨g,off,ha,hd,hc⟩:=h5 j x hx
 exact⟨g,off,ha,(k g hd).1,by rw[World.cell?_of_block (k g hd).2];exact hc⟩
def strC (ks:List (List Int)):List Value:=ks.map fun k=> .string (strOfNums k)
theorem own_ss {w:World} {base:Nat} {a:Option Addr} {n c:Nat} {ks:List (List Int)} (h:w.ownsRow base 9 1 (.slice a n c) n (strC ks)) (hn:n=ks.length) (hb:∀k∈ks,U.zv k):Ss (fun g=>base≤g∧g<w.heap.size) w a n c ks:=by
 subst hn
 rcases h.2 with ⟨e,h0⟩|⟨g,cap,cur,e,hbs,hg,hn,hm,hs,ht⟩
 ·injection e with e1 e2 e3
  subst e1;subst e3
  have:ks=[]:=List.eq_nil_of_length_eq_zero h0
  subst this
  exact⟨rfl,Nat.le_refl _,Nat.zero_le _,hb,fun j u hu=>by simp at hu⟩
 ·injection e with e1 e2 e3
  subst e1;subst e3
  refine⟨rfl,hn,hm,hb,fun j u hu=>⟨g,0,rfl,⟨hbs,(Array.getElem?_eq_some_iff.1 hg).1⟩,?_⟩⟩
  rw[Nat.zero_add]
  simp only[World.cell?,hg]
  have hj:j<ks.length:=(List.getElem?_eq_some_iff.1 hu).1
  have h2:(strC ks)[j]? =some (.string (strOfNums u)):=by simp[strC,hu]
  rw[←ht,List.getElem?_take_of_lt (by omega)]at h2
  simpa using h2
theorem own_str {w:World} {base:Nat} {v:Value} {n:Nat} {cs:List Value} {T:TypeId} {sz:Nat} (h:w.ownsRow base T sz v n cs):∀k,v.ownBlock=some k→∃cs',w.heap[k]? =some (.cells cs' T):=by
 intro k hk
 rcases h.2 with ⟨rfl,_⟩|⟨g,cap,cur,rfl,hb,hg,_⟩
 ·simp[Value.ownBlock]at hk
 ·simp[Value.ownBlock]at hk
  subst hk
  exact⟨cur,hg⟩
theorem vZ {w w':World} {b base:Nat} {v:Value} {n:Nat} {cs:List Value} {T:TypeId} {sz:Nat} (h:w.ownsRow base T sz v n cs) (bu:Bu b w w') (hb:b<base):w'.ownsRow base T sz v n cs:=
 h.kept bu (by
  cases e:v.ownBlock with
  |none=>exact .inl rfl
  |some k=>exact .inr (fun c=>by injection c with c;have:=(h.lt k e).1;omega))
theorem Rd.grown {w4 w5:World} {b G:Nat} {r:List TN} {m:Nat} {d:Int} {base:Nat} {v:Value} {n:Nat} {cs:List Value} {T:TypeId} {sz:Nat} {o:Obj} (h:Rd w4 b G r m d) (own:w4.ownsRow base T sz v n cs) (hT:51≠T) (hb:b<base) (hG:G<base) (hg:(w4.alloc o).grownBy w5 v.ownBlock):Rd w5 b G r m d:=by
 have lo:=own.lt
 have sA:(w4.alloc o).heap.size=w4.heap.size+1:=by simp
 have l1:=h.lt
 have l2:=h.ltG
 refine h.kept ?_ ?_ ?_
 ·rw[hg.block b (by omega) (fun e=>by have:=(lo b e.symm).1;omega),(Below.new1 o).block b (by omega)]
 ·rw[hg.block G (by omega) (fun e=>by have:=(lo G e.symm).1;omega),(Below.new1 o).block G (by omega)]
 ·refine(KR.of (Below.new1 o)).then (KR.grown hg fun k hk=> ?_)
  obtain⟨cs',hc⟩:=own_str own k hk
  exact⟨cs',T,_,zK hc o,hT⟩
theorem str_info:(Tryz.prog.info? 9).map (fun i=>(i.zero,i.size,i.bytes))=some (some (.string ⟨#[]⟩),1,16):=by kernel_rfl
theorem new_str (w:World) (n:Nat) (x0:Value) (hn:n=w.heap.size):∀(j:Nat) (u:Value),[x0][j]? =some u→(w.alloc (.cells #[x0] 9)).cell? ((⟨n,0,none⟩:Addr).add j)=some u:=by
 subst hn
 exact World.news_of_block (cs:= #[x0]) (t:=9) (fr:=(0,0)) (heap_alloc_new w _)
theorem strC_snoc (ks:List (List Int)) (k:List Int):strC ks++[.string (strOfNums k)]=strC (ks++[k]):=by simp[strC]
theorem keysF_more {f:Nat} {acc:List (List Int)} {r:List TN} (h:kd r=1) (h8:acc.length≠8):ve (f+1) acc r=ve f (acc++[tx r]) r.tail:=by
 conv=>lhs;unfold ve
 rw[if_pos h,if_neg h8]
theorem keysF_many {f:Nat} {acc:List (List Int)} {r:List TN} (h:kd r=1) (h8:acc.length=8):ve (f+1) acc r= .inl (pl r,7):=by
 unfold ve
 rw[if_pos h,if_pos h8]
theorem keysF_none {f:Nat} {r:List TN} (h:kd r≠1):ve (f+1) [] r= .inl (pl r,3):=by
 unfold ve
 rw[if_neg h,if_pos rfl]
theorem keysF_end {f:Nat} {acc:List (List Int)} {r:List TN} (h:kd r≠1) (ha:acc≠[]) (hs:isS r 59=true):ve (f+1) acc r= .inr (acc,r.tail):=by
 unfold ve
 rw[if_neg h,if_neg ha,if_pos hs]
theorem keysF_bad {f:Nat} {acc:List (List Int)} {r:List TN} (h:kd r≠1) (ha:acc≠[]) (hs:isS r 59=false):ve (f+1) acc r= .inl (pl r,3):=by
 unfold ve
 rw[if_neg h,if_neg ha,hs]
 rfl
def KRES (b G m:Nat) (d:Int) (n:Nat) (w:World) (x:Res (List (List Int))) (e:Ending) (w':World):Prop:=
 (∃a c K r',x= .inr (K,r')∧e= .returned (.slice a K.length c)∧Ss (New w w') w' a K.length c K∧K.length≤8∧Ends r'∧r'.length≤n∧Rd w' b G r' m d∧Bu b w w')∨(∃q why,x= .inl (q,why)∧e=xv q why∧Bu b w w')
theorem need_kind {r:List TN} {k:Int} (hk:k≠4) (h:kd r=k):R.lk r=(k,[]):=of_decide_eq_true ((Y5 r k hk).trans (decide_eq_true h))
theorem need_kind' {r:List TN} {k:Int} (hk:k≠4) (h:kd r≠k):R.lk r≠(k,[]):=fun c=>by have:=Y5 r k hk;rw[decide_eq_true c,decide_eq_false h]at this;cases this
theorem need_sign {r:List TN} {c:Int} (h:isS r c=true):R.lk r=(4,[c]):=of_decide_eq_true ((Y2 r c).trans h)
theorem need_sign' {r:List TN} {c:Int} (h:isS r c=false):R.lk r≠(4,[c]):=fun x=>by have:=Y2 r c;rw[decide_eq_true x,h]at this;cases this
theorem keys_l (w:World) (b G:Nat) (r:List TN) (m:Nat) (d:Int) (h:Rd w b G r m d) (hr:Ends r):
  Calls Tryz.prog 99 #[.pointer (some ⟨b,0,none⟩)] w (KRES b G m d r.length w (keysL r)):=by
 have CG:=zk (fun W=>ZW ⟨#[37]⟩ W)
 have CS:=zk (fun W (bW:Below w.heap.size w W)=>sees_l W b G r m d (h.later bW) hr 4 [37] (yJ (by decide)))
 rw[Y2]at CS
 have e37:strOfNums [37]=⟨#[37]⟩:=rfl
 rw[e37]at CS
 have hbl:=h.lt
 have hGl:=h.ltG
 cases hs:isS r 37 with
 |false=>
  rw[hs]at CS
  have FIN:Hid (keysL r= .inr ([],r)):=by show _=_;unfold keysL;rw[hs];rfl
  have HST:=zk (And.intro h hr)
  clear h hr hs e37
  go_enter Tryz.func99,Tryz.ntmps99
  go_wp2_with fail
  refine(zq CG _).mono ?_
  rintro e w1 ⟨rfl,b1⟩
  clear CG
  go_wp2_with fail
  refine(zq CS _ b1).mono ?_
  rintro e w2 ⟨rfl,b2⟩
  clear CS
  have B2:=zY b1 b2
  go_wp2_with fail
  go_ret
  exact .inl ⟨none,0,[],r,zq FIN,rfl,⟨rfl,Nat.le_refl _,Nat.zero_le _,(fun k hk=>by cases hk),fun j u hu=>by simp at hu⟩,by simp,(zq HST).2,Nat.le_refl _,(zq HST).1.later B2,Bu.of B2⟩
 |true=>
  rw[hs]at CS
  have E1:=hr.sign hs
  have hrt:=qj hr.ne
  have CT:=zk (fun W (bW:Below w.heap.size w W)=>Zz W b G r m d (h.later bW) hr.ne E1.ne)
  have ST:Hid (keysL r=ve r.length [] r.tail):=by show _=_;unfold keysL;rw[hs];rfl
  have HE1:=zk E1
  have e0:strOfNums []=⟨#[]⟩:=rfl
  have e59:strOfNums [59]=⟨#[59]⟩:=rfl
  have CG2:=zk (fun W=>ZW ⟨#[59]⟩ W)
  clear h hr hs e37 E1
  go_enter Tryz.func99,Tryz.ntmps99
  go_wp2_with fail
  refine(zq CG _).mono ?_
  rintro e w1 ⟨rfl,b1⟩
  clear CG
  go_wp2_with fail
  refine(zq CS _ b1).mono ?_
  rintro e w2 ⟨rfl,b2⟩
  clear CS
  have B2:=zY b1 b2
  go_wp2_with fail
  refine(zq CT _ B2).mono ?_
  rintro e w3 ⟨v3,rfl,tv3,rd3,bu3⟩
  clear CT tv3
  have BU3:=zk ((Bu.of B2).then bu3)
  have RD3:=zk rd3
  clear bu3 rd3
  go_wp2_with fail
  go_loopw [3] (fun v wr=>Hid (∃(acc:List (List Int)) (rr:List TN) (f:Nat),keysL r=ve f acc rr∧rr.length≤f∧rr.length≤r.length∧acc.length≤8∧(∀k∈acc,U.zv k)∧Ends rr∧Rd wr b G rr m d∧wr.ownsRow w.heap.size 9 1 v acc.length (strC acc)∧Bu b w wr)) (fun _ wr=>leftN b wr)
  case atStart=>exact⟨[],r.tail,r.length,zq ST,by omega,by omega,by simp,(fun k hk=>by cases hk),zq HE1,zq RD3,World.ownsRow_nil _ _ _ _,zq BU3⟩
  case round=>
   obtain⟨acc,rr,f,hS,hff,hrl,ha8,hab,hE,rd,own,bu⟩:=zq hrel
   obtain⟨q5,c5,rfl⟩:=xu own
   have hpos:1≤rr.length:=by cases hq:rr with|nil=>exact absurd hq hE.ne|cons x y=>simp
   obtain⟨f',rfl⟩:∃f',f=f'+1:=⟨f-1,by omega⟩
   have HS:=zk hS
   have HRD:=zk rd
   have HE:=zk hE
   have HBU:=zk bu
   have HOW:=zk own
   have HAB:=zk hab
   have hbr:=rd.lt
   have CS:=zk (sees_l wr b G rr m d rd hE 1 [] (fun z hz=>by cases hz))
   rw[Y5 rr 1 (by decide),e0]at CS
   clear ST RD3 BU3 HE1 hrel
   by_cases h1:kd rr=1
   ·rw[decide_eq_true h1]at CS
    by_cases h8:acc.length=8
    ·have FIN:Hid (keysL r= .inl (pl rr,7)):=hS.trans (keysF_many h1 h8)
     have hrt1:=qj hE.ne
     have E2:=hE.tail (by rw[h1];decide)
     have CN:=zk (fun W (bW:Below wr.heap.size wr W)=>YQ W b G rr m d (rd.later bW) hE E2.ne 1 [] (fun z hz=>by cases hz) (need_kind (by decide) h1))
     rw[e0]at CN
     have HE2:=zk E2
     have HTB:=zk hE.bytes
     have a0:((acc.length:Int)==0)=false:=beq_eq_false_iff_ne.2 (by omega)
     have n8:((acc.length:Int)==8)=true:=by rw[h8];rfl
     have HN8:=zk h8
     clear h1 h8 hE rd hS E2 own hab bu
     go_wp2_with fail
     refine(zq CS).mono ?_
     rintro e w4 ⟨rfl,b4⟩
     clear CS
     go_wp2_with fail
     refine(zq CN _ b4).mono ?_
     rintro e w5 ⟨v5,rfl,⟨a3,c3,rfl,-,-⟩,rd5,bu5⟩
     clear CN
     have BU5:=zk (((zq HBU).then (Bu.of (b4))).then bu5)
     have HO:=vZ (j5 b4 (zq HOW)) bu5 hbl
     have RD5:=zk rd5
     have hs5:w.heap.size≤w5.heap.size:=by have:=(zq BU5).size;omega
     clear bu5 rd5
     go_wp2_with fail
     exact⟨rfl,.inr ⟨pl rr,7,zq FIN,rfl,(zq BU5).alloc _⟩⟩
    ·have STEP:Hid (keysL r=ve f' (acc++[tx rr]) rr.tail):=hS.trans (keysF_more h1 h8)
     have hrt1:=qj hE.ne
     have E2:=hE.tail (by rw[h1];decide)
     have CN:=zk (fun W (bW:Below wr.heap.size wr W)=>YQ W b G rr m d (rd.later bW) hE E2.ne 1 [] (fun z hz=>by cases hz) (need_kind (by decide) h1))
     rw[e0]at CN
     have HE2:=zk E2
     have HTB:=zk hE.bytes
     by_cases hz:acc.length=0
     ·have a0:((acc.length:Int)==0)=true:=by rw[hz];rfl
      clear hz
      clear h1 hE rd hS E2 own hab bu CS
      have b4:Below wr.heap.size wr wr:=Below.refl _ _
      go_wp2_with fail
      refine(zq CN _ b4).mono ?_
      rintro e w5 ⟨v5,rfl,⟨a3,c3,rfl,-,-⟩,rd5,bu5⟩
      clear CN
      have BU5:=zk (((zq HBU).then (Bu.of (b4))).then bu5)
      have HO:=vZ (j5 b4 (zq HOW)) bu5 hbl
      have RD5:=zk rd5
      have hs5:w.heap.size≤w5.heap.size:=by have:=(zq BU5).size;omega
      clear bu5 rd5
      have n8:((acc.length:Int)==8)=false:=beq_eq_false_iff_ne.2 (by omega)
      obtain⟨ti,hi0,hz0,hz1,hz2⟩:=info_parts str_info
      generalize hTX:strOfNums (tx rr)=TX at*
      have HTX:=zk hTX
      clear hTX
      go_wp2_with (at_builtin;refine wpList_append_lies _ rfl _ _ 23 rfl w.heap.size 9 ti _ 1 16 Tryz.underlying23 hi0 hz0 hz1 hz2 rfl (by omega) _ _ _ rfl ((HO.alloc _).alloc _) ⟨w5.heap.size+1,0,none⟩ 1 1 [.string TX] rfl rfl (new_str _ _ _ (by simp)) (by simp[Value.oneCell']) (by omega) (by unfold maxLen;omega) (by omega) (by simp;omega) (w5.heap.size+2) (by simp) ?_;intro gg cap1 w6 hown1 hgrow hat hlt1)
      have RDA:=(zq RD5).later (Below.new1 (w:=w5) (.cells #[.int .i64 (kd rr),.string TX,.slice a3 (rg rr).length c3,.int .i64 (pl rr:Nat)] 135))
      have RD6:=zk (Rd.grown RDA (HO.alloc _) (by decide) hbl hGl hgrow)
      have BU6:=zk ((((zq BU5).alloc _).alloc _).grow hgrow (fun k hk=>(HO.lt k hk).1))
      have OW6:Hid (w6.ownsRow w.heap.size 9 1 (.slice (some ⟨gg,0,none⟩) (acc.length+1) cap1) (acc++[tx rr]).length (strC (acc++[tx rr]))):=by
       show World.ownsRow _ _ _ _ _ _ _
       rw[←strC_snoc,List.length_append,zq HTX]
       exact hown1
      clear hgrow hat hlt1 hown1 HO RDA
      (try go_wp2_with fail)
      go_roundw
      case rel=>
       refine⟨acc++[tx rr],rr.tail,f',zq STEP,by omega,by omega,by rw[List.length_append,List.length_singleton];omega,?_,zq HE2,zq RD6,zq OW6,zq BU6⟩
       intro k hk
       rcases List.mem_append.1 hk with hk|hk
       ·exact zq HAB k hk
       ·rw[List.mem_singleton.1 hk];exact zq HTB
      case measure=>rw[(zq RD6).left,(zq HRD).left];exact hrt1
     ·have a0:((acc.length:Int)==0)=false:=beq_eq_false_iff_ne.2 (by omega)
      clear h1 hE rd hS E2 own hab bu
      go_wp2_with fail
      refine(zq CS).mono ?_
      rintro e w4 ⟨rfl,b4⟩
      clear CS
      go_wp2_with fail
      refine(zq CN _ b4).mono ?_
      rintro e w5 ⟨v5,rfl,⟨a3,c3,rfl,-,-⟩,rd5,bu5⟩
      clear CN
      have BU5:=zk (((zq HBU).then (Bu.of (b4))).then bu5)
      have HO:=vZ (j5 b4 (zq HOW)) bu5 hbl
      have RD5:=zk rd5
      have hs5:w.heap.size≤w5.heap.size:=by have:=(zq BU5).size;omega
      clear bu5 rd5
      have n8:((acc.length:Int)==8)=false:=beq_eq_false_iff_ne.2 (by omega)
      obtain⟨ti,hi0,hz0,hz1,hz2⟩:=info_parts str_info
      generalize hTX:strOfNums (tx rr)=TX at*
      have HTX:=zk hTX
      clear hTX
      go_wp2_with (at_builtin;refine wpList_append_lies _ rfl _ _ 23 rfl w.heap.size 9 ti _ 1 16 Tryz.underlying23 hi0 hz0 hz1 hz2 rfl (by omega) _ _ _ rfl ((HO.alloc _).alloc _) ⟨w5.heap.size+1,0,none⟩ 1 1 [.string TX] rfl rfl (new_str _ _ _ (by simp)) (by simp[Value.oneCell']) (by omega) (by unfold maxLen;omega) (by omega) (by simp;omega) (w5.heap.size+2) (by simp) ?_;intro gg cap1 w6 hown1 hgrow hat hlt1)
      have RDA:=(zq RD5).later (Below.new1 (w:=w5) (.cells #[.int .i64 (kd rr),.string TX,.slice a3 (rg rr).length c3,.int .i64 (pl rr:Nat)] 135))
      have RD6:=zk (Rd.grown RDA (HO.alloc _) (by decide) hbl hGl hgrow)
      have BU6:=zk ((((zq BU5).alloc _).alloc _).grow hgrow (fun k hk=>(HO.lt k hk).1))
      have OW6:Hid (w6.ownsRow w.heap.size 9 1 (.slice (some ⟨gg,0,none⟩) (acc.length+1) cap1) (acc++[tx rr]).length (strC (acc++[tx rr]))):=by
       show World.ownsRow _ _ _ _ _ _ _
       rw[←strC_snoc,List.length_append,zq HTX]
       exact hown1
      clear hgrow hat hlt1 hown1 HO RDA
      (try go_wp2_with fail)
      go_roundw
      case rel=>
       refine⟨acc++[tx rr],rr.tail,f',zq STEP,by omega,by omega,by rw[List.length_append,List.length_singleton];omega,?_,zq HE2,zq RD6,zq OW6,zq BU6⟩
       intro k hk
       rcases List.mem_append.1 hk with hk|hk
       ·exact zq HAB k hk
       ·rw[List.mem_singleton.1 hk];exact zq HTB
      case measure=>rw[(zq RD6).left,(zq HRD).left];exact hrt1
   ·rw[decide_eq_false h1]at CS
    by_cases hz:acc=[]
    ·subst hz
     have FIN:Hid (keysL r= .inl (pl rr,3)):=hS.trans (keysF_none h1)
     have CN:=zk (fun W (bW:Below wr.heap.size wr W)=>need_no W b G rr m d (rd.later bW) hE 1 [] (fun z hz=>by cases hz) (need_kind' (by decide) h1))
     rw[e0]at CN
     clear h1 hE rd hS own hab bu CS
     simp only[List.length_nil]at*
     go_wp2_with fail
     refine(zq CN _ (Below.refl _ _)).mono ?_
     rintro e w5 ⟨rfl,bu5⟩
     clear CN
     unfold xv
     go_wp2_with fail
     exact⟨rfl,.inr ⟨pl rr,3,zq FIN,rfl,(zq HBU).then bu5⟩⟩
    ·have hz':acc.length≠0:=fun c=>hz (List.eq_nil_of_length_eq_zero c)
     have a0:((acc.length:Int)==0)=false:=beq_eq_false_iff_ne.2 (by omega)
     cases hs:isS rr 59 with
     |true=>
      have FIN:Hid (keysL r= .inr (acc,rr.tail)):=hS.trans (keysF_end h1 hz hs)
      have hrt1:=qj hE.ne
      have E2:=hE.sign hs
      have CN:=zk (fun W (bW:Below wr.heap.size wr W)=>YQ W b G rr m d (rd.later bW) hE E2.ne 4 [59] (yJ (by decide)) (need_sign hs))
      rw[e59]at CN
      have HE2:=zk E2
      clear h1 hE rd hS own hab bu hz hs E2
      go_wp2_with fail
      refine(zq CS).mono ?_
      rintro e w4 ⟨rfl,b4⟩
      clear CS
      go_wp2_with fail
      refine(zq CG2 _).mono ?_
      rintro e w5 ⟨rfl,b5⟩
      clear CG2
      have B5:=zY b4 b5
      go_wp2_with fail
      refine(zq CN _ B5).mono ?_
      rintro e w6 ⟨v6,rfl,tv6,rd6,bu6⟩
      clear CN tv6
      have OW6:=zk (vZ (j5 B5 (zq HOW)) bu6 hbl)
      go_wp2_with fail
      go_ret
      exact .inl ⟨q5,c5,acc,rr.tail,zq FIN,rfl,own_ss (zq OW6) rfl (zq HAB),ha8,zq HE2,by omega,rd6,((zq HBU).then (Bu.of B5)).then bu6⟩
     |false=>
      have FIN:Hid (keysL r= .inl (pl rr,3)):=hS.trans (keysF_bad h1 hz hs)
      have CN:=zk (fun W (bW:Below wr.heap.size wr W)=>need_no W b G rr m d (rd.later bW) hE 4 [59] (yJ (by decide)) (need_sign' hs))
      rw[e59]at CN
      clear h1 hE rd hS own hab bu hz hs
      go_wp2_with fail
      refine(zq CS).mono ?_
      rintro e w4 ⟨rfl,b4⟩
      clear CS
      go_wp2_with fail
      refine(zq CG2 _).mono ?_
      rintro e w5 ⟨rfl,b5⟩
      clear CG2
      have B5:=zY b4 b5
      go_wp2_with fail
      refine(zq CN _ B5).mono ?_
      rintro e w6 ⟨rfl,bu6⟩
      clear CN
      unfold xv
      go_wp2_with fail
      exact⟨rfl,.inr ⟨pl rr,3,zq FIN,rfl,((zq HBU).then (Bu.of B5)).then bu6⟩⟩
end Go.Proofs.YtcblkmlcbedomaaGreatDoor.R

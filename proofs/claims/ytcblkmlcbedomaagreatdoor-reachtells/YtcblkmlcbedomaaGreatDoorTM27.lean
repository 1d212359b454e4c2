/- Parts of the proof that stand ahead of it (T 27). -/
import Derived.Test.YtcblkmlcbedomaaGreatDoorTM26
set_option linter.unusedVariables false
set_option linter.unusedSimpArgs false
set_option maxRecDepth 20000
set_option maxHeartbeats 16000000
namespace Go.Proofs.YtcblkmlcbedomaaGreatDoor.F
open Go.RowKit Go.Proofs.YtcblkmlcbedomaaGreatDoor.T Go.Proofs.YtcblkmlcbedomaaGreatDoor.R
def smP:Nat→PT→Prop
 |0,_=>False
 |n+1,p=>(txP p).length≤1000000∧(rgP p).length≤1000000∧(psP p).length≤1000000∧∀x∈psP p,smP n x
theorem call_yes {ns:List (List Int)} {s:Mk} {l:List SY} {p:PT} {n:Nat} (h:idx (txP p) ns 0=some n):callS ns s l p=(s,ji l (2,[],(n:Int))):=by unfold callS;rw[h]
theorem call_no {ns:List (List Int)} {s:Mk} {l:List SY} {p:PT} (h:idx (txP p) ns 0=none):callS ns s l p=(s.stop (atP p) 5,ji l (2,[],0)):=by unfold callS;rw[h]
theorem MakV.blk {D:Nat→Prop} {w:World} {B b m:Nat} {ns:List (List Int)} {d:Int} {v:Value} {s:Mk} (h:MakV D w B b m ns d v s):∃cs fr,w.heap[b]? =some (.cells cs 111 fr):=⟨_,_,h.cells⟩
theorem fcall_l {D:Nat→Prop} {w:World} {B b m:Nat} {ns:List (List Int)} {d:Int} {s:Mk} {v:Value} {l:List SY} (n:Nat) (pv:Value) (p:PT) (hB:B≤w.heap.size) (h:Mak (fun k=>D k∧some k≠v.ownBlock) w B b m ns d s) (hL:LV w B v l) (hp:PartB B (n+1) w pv p):
  Calls Tryz.prog 102 #[.pointer (some ⟨b,0,none⟩),v,pv] w (LfR D B b m ns d v w (callS ns s l p)):=by
 obtain⟨mv,hm⟩:=h
 obtain⟨k,t,R,L,q,aR,cR,aL,cL,cs,rfl,rfl,f1,ht,f3,-⟩:=hp
 have B1:∀o,Below w.heap.size w (w.alloc o):=fun o=>Below.new1 o
 have hlt:=hm.lt
 have C1:∀o,(w.alloc o).cell? ⟨b,1,none⟩=some (.map (some m)):=fun o=>(yV (hm.later (B1 o)).cells).2.1
 have LK:∀o j,(Instr.lookup 106 (.map (some m)) (.string (strOfNums t)) true).run Tryz.prog ((w.alloc o).drewN j)= .ok (.tuple #[.int .i64 (((idx t ns 0).getD 0:Nat):Int),.bool (idx t ns 0).isSome]) ((w.alloc o).drewN j):=fun o j=>Nm.get (((hm.later (B1 o)).later (zX (k:=j))).names) ht
 have HM:=zk hm
 have HL:=zk hL
 obtain⟨la,lc,rfl⟩:=hL.form
 have MB:=zk hm.blk
 cases hi:idx t ns 0 with
 |some i=>
  have FIN:Hid (callS ns s l (mk k t R L q)=(s,ji l (2,[],(i:Int)))):=call_yes hi
  rw[hi]at LK
  simp only[Option.getD_some,Option.isSome_some]at LK
  have CP:=zk (fun W (bW:Below w.heap.size w W)=>fput_l (hL.later bW) (by have:=bW.size;omega) 2 (i:Int) [] none 0 (Rs.nil W) (Ty.nil W))
  simp only[List.length_nil]at CP
  clear hm hL hi
  generalize strOfNums t=S at*
  go_enter Tryz.func102,Tryz.ntmps102
  go_wp2_with fail
  go_quiet (fail)
  go_wp2_with fail
  refine(zq CP _ ?_).mono ?_
  ·exact zY (B1 _) zX
  rintro e w2 ⟨v',rfl,lv,gr,nx,kr⟩
  clear CP
  obtain⟨xa,xc,rfl⟩:=lv.form
  go_wp2_with fail
  go_ret
  rw[zq FIN]
  exact Yi (zq HL) (zq MB) ((zq HM).later (zY (B1 _) zX)) (Fl.of (zY (B1 _) zX)) lv gr nx
 |none=>
  have FIN:Hid (callS ns s l (mk k t R L q)=(s.stop q 5,ji l (2,[],0))):=call_no hi
  rw[hi]at LK
  simp only[Option.getD_none,Option.isSome_none]at LK
  have CP:=zk (fun W (hW:LV W B (.slice la l.length lc) l) (hb:B≤W.heap.size)=>fput_l hW hb 2 0 [] none 0 (Rs.nil W) (Ty.nil W))
  simp only[List.length_nil]at CP
  have CS:=zk (fun W (bW:Below w.heap.size w W)=>Yx (hm.later bW) q 5)
  clear hm hL hi
  generalize strOfNums t=S at*
  go_enter Tryz.func102,Tryz.ntmps102
  go_wp2_with fail
  go_quiet (fail)
  go_wp2_with fail
  refine(zq CS _ ?_).mono ?_
  ·exact zY (B1 _) zX
  rintro e w2 ⟨rfl,hm2,f2⟩
  clear CS
  have FW:Fl B b none w w2:=(Fl.of (zY (B1 _) zX)).then f2 (fun g e=>by cases e)
  have s2:=FW.size
  have HL2:LV w2 B (.slice la l.length lc) l:=by
   obtain⟨bc,bf,hb⟩:=zq MB
   exact(zq HL).fl FW hb (Zv _) (fun g _ e=>by cases e)
  have CP2:=zk (zq CP w2 HL2 (by omega))
  have HM2:=zk hm2
  have HFW:=zk FW
  clear CP hm2 f2 FW HL2
  go_wp2_with fail
  refine(zq CP2).mono ?_
  rintro e w3 ⟨v',rfl,lv,gr,nx,kr⟩
  clear CP2
  obtain⟨xa,xc,rfl⟩:=lv.form
  go_wp2_with fail
  go_ret
  rw[zq FIN]
  exact Yi (zq HL) (zq MB) (zq HM2) (zq HFW) lv gr nx
def InvL (D:Nat→Prop) (B b m:Nat) (ns:List (List Int)) (d:Int) (v:Value) (w:World) (s:Mk) (lv:Value) (l:List SY) (wr:World):Prop:=
 LV wr B lv l∧Mak (fun k=>D k∧some k≠lv.ownBlock) wr B b m ns d s∧Fl B b v.ownBlock w wr∧Nx w v lv
theorem InvL.start {D:Nat→Prop} {B b m:Nat} {ns:List (List Int)} {d:Int} {v:Value} {w W:World} {s:Mk} {l:List SY} {mv:Value} (hL:LV w B v l) (hm:MakV (fun k=>D k∧some k≠v.ownBlock) w B b m ns d mv s) (k:Below w.heap.size w W):InvL D B b m ns d v w s v l W:=
 ⟨hL.later k,⟨mv,hm.later k⟩,Fl.of k,Nx.refl _ _⟩
theorem InvL.then {D:Nat→Prop} {B b m:Nat} {ns:List (List Int)} {d:Int} {v lv:Value} {w wr w':World} {s:Mk} {l:List SY} {r:Mk×List SY} {e:Ending} (h:InvL D B b m ns d v w s lv l wr) (k:LfR D B b m ns d lv wr r e w'):LfR D B b m ns d v w r e w':=by
 obtain⟨h1,h2,h3,h4⟩:=h
 obtain⟨v',e1,k1,k2,k3,k4⟩:=k
 refine⟨v',e1,k1,k2,h3.then k3 (fun g hg=>h4 g hg),fun g hg=> ?_⟩
 rcases k4 g hg with c|c
 ·exact h4 g c
 ·exact .inr (Nat.le_trans h3.size c)
theorem InvL.on {D:Nat→Prop} {B b m:Nat} {ns:List (List Int)} {d:Int} {v lv v':Value} {w wr w':World} {s:Mk} {l:List SY} {r:Mk×List SY} (h:InvL D B b m ns d v w s lv l wr) (k:LfR D B b m ns d lv wr r (.returned v') w'):InvL D B b m ns d v w r.1 v' r.2 w':=by
 obtain⟨v2,e1,k1,k2,k3,k4⟩:=h.then k
 injection e1 with e1
 subst e1
 exact⟨k1,k2,k3,k4⟩
theorem InvL.out {D:Nat→Prop} {B b m:Nat} {ns:List (List Int)} {d:Int} {v lv:Value} {w wr:World} {s:Mk} {l:List SY} (h:InvL D B b m ns d v w s lv l wr):LfR D B b m ns d v w (s,l) (.returned lv) wr:=⟨lv,rfl,h⟩
theorem InvL.more {D:Nat→Prop} {B b m:Nat} {ns:List (List Int)} {d:Int} {v lv:Value} {w wr X:World} {s:Mk} {l:List SY} (h:InvL D B b m ns d v w s lv l wr) (k:Below wr.heap.size wr X):InvL D B b m ns d v w s lv l X:=by
 obtain⟨h1,⟨mv,h2⟩,h3,h4⟩:=h
 exact⟨h1.later k,⟨mv,h2.later k⟩,h3.then (Fl.of (x:=none) k) (fun g e=>by cases e),h4⟩
theorem bs_blk {w X:World} {g off len cap:Nat} {l:List Int} (h:Bs w (some ⟨g,off,none⟩) len cap l) (e:X.heap[g]? =w.heap[g]?):Bs X (some ⟨g,off,none⟩) len cap l:=by
 refine⟨h.hlen,h.hcap,h.hmax,h.hbytes,fun i hi=> ?_⟩
 obtain⟨b,o,ha,hc⟩:=h.hcell i hi
 injection ha with ha
 injection ha with h1 h2
 subst h1;subst h2
 exact⟨g,off,rfl,by rw[World.cell?_of_block e];exact hc⟩
theorem text_long {c:Int} {t:List Int} {l:List SY} (h:40<l.length):vX (c::t) l=l:=by unfold vX;rw[if_pos h]
theorem text_more {c:Int} {t:List Int} {l:List SY} (h:¬40<l.length):vX (c::t) l=vX t (ji l (0,[(c,c)],0)):=by conv=>lhs;unfold vX;rw[if_neg h]
theorem ftext_l {D:Nat→Prop} {w:World} {B b m:Nat} {ns:List (List Int)} {d:Int} {s:Mk} {v:Value} {l:List SY} (n:Nat) (pv:Value) (p:PT) (hB:B≤w.heap.size) (h:Mak (fun k=>D k∧some k≠v.ownBlock) w B b m ns d s) (hL:LV w B v l) (hp:PartB B (n+1) w pv p) (hs:(txP p).length≤1000000):
  Calls Tryz.prog 103 #[.pointer (some ⟨b,0,none⟩),v,pv] w (LfR D B b m ns d v w (s,vX (txP p) l)):=by
 obtain⟨mv,hm⟩:=h
 obtain⟨k,t,R,L,q,aR,cR,aL,cL,cs,rfl,rfl,f1,ht,f3,-⟩:=hp
 simp only[tx_mk]at hs⊢
 have B1:∀o,Below w.heap.size w (w.alloc o):=fun o=>Below.new1 o
 have hlt:=hm.lt
 have hst:=St.of ht
 have hsz:=hst.size
 generalize hS:strOfNums t=S at*
 have kc:=fun W=>run_bytes_of_string (P:=Tryz.prog) W 9 130 5 S Tryz.underlying9 Tryz.underlying130 Tryz.underlying5
 have BC:=zk (fun W fr=>bs_conv' W hst (by unfold maxLen;omega) fr)
 have INV:=zk (fun W (bW:Below w.heap.size w W)=>InvL.start hL hm bW)
 have CT:=zk (fun x n cc W=>tooLong_l x n cc W)
 have MB:=zk hm.blk
 have VB:=zk hL.block
 have VL:=zk hL.lt
 obtain⟨la,lc,rfl⟩:=hL.form
 have HSZ:=zk hsz
 have hsl:S.size≤1000000:=by omega
 clear hm hL hst ht hS hsz
 go_enter Tryz.func103,Tryz.ntmps103
 go_wp2_with fail
 have BX:=B1 (.cells #[.int .i64 k,.string S,.slice aR R.length cR,.slice aL L.length cL,.int .i64 q] 149)
 generalize hWb:w.alloc (.cells #[.int .i64 k,.string S,.slice aR R.length cR,.slice aL L.length cL,.int .i64 q] 149)=Wb at*
 have sWb:Wb.heap.size=w.heap.size+1:=by rw[←hWb];simp
 have B0:=new_drew' (w:=Wb) (.cells (bytesRow S (grownCap Wb S.size 0 5)) 5 ((bytesRow S (grownCap Wb S.size 0 5)).size,(bytesRow S (grownCap Wb S.size 0 5)).size+1))
 have HB0:=zq BC Wb ((bytesRow S (grownCap Wb S.size 0 5)).size,(bytesRow S (grownCap Wb S.size 0 5)).size+1)
 have HG0:((Wb.alloc (.cells (bytesRow S (grownCap Wb S.size 0 5)) 5 ((bytesRow S (grownCap Wb S.size 0 5)).size,(bytesRow S (grownCap Wb S.size 0 5)).size+1))).drew).heap[Wb.heap.size]? =some (.cells (bytesRow S (grownCap Wb S.size 0 5)) 5 ((bytesRow S (grownCap Wb S.size 0 5)).size,(bytesRow S (grownCap Wb S.size 0 5)).size+1)):=heap_alloc_new _ _
 clear BC kc
 generalize hW0:(Wb.alloc (.cells (bytesRow S (grownCap Wb S.size 0 5)) 5 ((bytesRow S (grownCap Wb S.size 0 5)).size,(bytesRow S (grownCap Wb S.size 0 5)).size+1))).drew=W0 at*
 clear hW0 hWb
 generalize ((bytesRow S (grownCap Wb S.size 0 5)).size,(bytesRow S (grownCap Wb S.size 0 5)).size+1)=fr0 at*
 generalize bytesRow S (grownCap Wb S.size 0 5)=row0 at*
 generalize grownCap Wb S.size 0 5=gc at*
 have hcap:=HB0.hcap
 have hmaxc:=HB0.hmax
 unfold maxLen at hmaxc
 generalize hgb:Wb.heap.size=gb at*
 have INV0:=zk (zq INV W0 (zY BX (by rw[hgb];exact B0)))
 have HBS:=zk HB0
 have HBG:=zk HG0
 clear INV HB0 HG0 B0 BX
 subst sWb
 clear hgb
 generalize hn:S.size=n0 at*
 go_loopw [1,13] (fun lv i wr=>∃(j:Nat) (l':List SY),j≤n0∧i= .int .i64 (j:Int)∧Hid (vX t l=vX (t.drop j) l')∧Hid (InvL D B b m ns d (.slice la l.length lc) w s lv l' wr)∧Hid (wr.heap[w.heap.size+1]? =W0.heap[w.heap.size+1]?)∧w.heap.size≤wr.heap.size) (fun _ i _=>n0-(intOf i).toNat)
 case atStart=>exact⟨0,l,Nat.zero_le _,rfl,rfl,INV0,rfl,(zq INV0).2.2.1.size⟩
 case round=>
  obtain⟨j,l',hj,rfl,hT,hI,hG,hsw⟩:=hrel
  obtain⟨xa,xc,rfl⟩:=(zq hI).1.form
  by_cases hlt2:j<n0
  ·obtain⟨bb,off,e,hb⟩:=(bs_blk (zq HBS) (zq hG)).open (by omega)
   injection e with e
   injection e with e1 e2
   rw[←e1,←e2]at hb
   clear e1 e2
   obtain⟨z,hz,z0,z1,cz⟩:=bat hb j hlt2
   rw[Nat.zero_add]at cz
   have hd:Hid (t.drop j=z::t.drop (j+1)):=by
    show _=_
    have hjl:j<t.length:=by rw[←zq HSZ];exact hlt2
    rw[List.drop_eq_getElem_cons hjl,←hz]
    simp[List.getD,hjl]
   clear hb hz
   by_cases h40:40<l'.length
   ·have hbb:decide ((40:Int)<(l'.length:Int))=true:=decide_eq_true (by omega)
    have FIN:Hid (vX t l=l'):=by show _=_;rw[zq hT,zq hd,text_long h40]
    clear h40 hT hd
    go_wp2_with fail
    refine(zq CT _ _ _ _).mono ?_
    rintro e w1 ⟨rfl,hw1⟩
    subst hw1
    clear CT
    rw[hbb]
    go_wp2_with fail
    go_ret
    rw[zq FIN]
    exact(zq hI).out
   ·have hbb:decide ((40:Int)<(l'.length:Int))=false:=decide_eq_false (by omega)
    have NXT:Hid (vX t l=vX (t.drop (j+1)) (ji l' (0,[(z,z)],0))):=by show _=_;rw[zq hT,zq hd,text_more h40]
    clear h40 hT hd
    have I1:=zk (fun o=>(zq hI).more (Below.new1 (w:=wr) o))
    have CP:=zk (fun W (bW:Below wr.heap.size wr W) (a:Option Addr) (c:Nat) (hr:Rs W a 1 c [(z,z)]) (hy:Ty W a)=>fput_l ((zq hI).1.later bW) (by have:=bW.size;omega) 0 0 [(z,z)] a c hr hy)
    have RS:=zk (fun nn (hnn:nn=wr.heap.size)=>Rs.single wr z z (by unfold yQ;omega) (by unfold yQ;omega) nn hnn)
    unfold boxRg at RS
    simp only[List.length_cons,List.length_nil,Nat.zero_add]at CP
    go_wp2_with fail
    refine(zq CT _ _ _ _).mono ?_
    rintro e w1 ⟨rfl,hw1⟩
    subst hw1
    rw[hbb]
    go_wp2_with fail
    refine(zq CP _ (Below.new1 _) _ _ (zq RS _ rfl) ?_).mono ?_
    ·intro b' off' e
     injection e with e
     injection e with e1 e2
     subst e1
     exact⟨_,_,heap_alloc_new _ _⟩
    rintro e w2 ⟨v',rfl,lv,gr,nx,kr⟩
    clear CP
    obtain⟨ya,yc,rfl⟩:=lv.form
    obtain⟨mv2,hmk⟩:=(zq hI).2.1
    have NI:=zk ((zq hI).on (Yi (zq hI).1 hmk.blk (hmk.later (Below.new1 _)) (Fl.of (Below.new1 _)) lv gr nx))
    have hlb:w.heap.size+1<w1.heap.size:=(Array.getElem?_eq_some_iff.1 ((zq hG).trans (zq HBG))).1
    have HG2:Hid (w2.heap[w.heap.size+1]? =W0.heap[w.heap.size+1]?):=by
     show _=_
     rw[gr.block (w.heap.size+1) (by simp;omega) (fun e=> ?_),(Below.new1 _).block _ hlb]
     ·exact zq hG
     ·obtain⟨c1,f1,h1⟩:=(zq hI).1.block _ e.symm
      exact yq ((zq hG).trans (zq HBG)) h1 (by decide) rfl
    have s2:=(zq NI).2.2.1.size
    clear lv gr nx kr hmk hI I1 hG
    go_wp2_with fail
    go_roundw
    case rel=>exact⟨j+1,_,by omega,by simp,NXT,NI,HG2,s2⟩
    case measure=>simp[intOf];omega
  ·obtain rfl:j=n0:=by omega
   have FIN:Hid (vX t l=l'):=by
    show _=_
    rw[zq hT,List.drop_eq_nil_of_le (by rw[←zq HSZ];exact Nat.le_refl _)]
    rfl
   go_wp2_with fail
   go_ret
   rw[zq FIN]
   exact(zq hI).out
theorem fset_l {D:Nat→Prop} {w:World} {B b m:Nat} {ns:List (List Int)} {d:Int} {s:Mk} {v:Value} {l:List SY} (n:Nat) (pv:Value) (p:PT) (hB:B≤w.heap.size) (h:Mak (fun k=>D k∧some k≠v.ownBlock) w B b m ns d s) (hL:LV w B v l) (hp:PartB B (n+1) w pv p) (hs:(rgP p).length≤1000000):
  Calls Tryz.prog 104 #[.pointer (some ⟨b,0,none⟩),v,pv] w (LfR D B b m ns d v w (s,ji l (1,rgP p,0))):=by
 obtain⟨mv,hm⟩:=h
 obtain⟨k,t,R,L,q,aR,cR,aL,cL,cs,rfl,rfl,f1,ht,f3,hR,hY,-⟩:=hp
 simp only[rg_mk]at hs⊢
 have B1:∀o,Below w.heap.size w (w.alloc o):=fun o=>Below.new1 o
 have CC:=zk (fun o=>cloneR_l aR cR R (w.alloc o) (hR.later (B1 o) (Nat.le_refl _)) hs)
 have CP:=zk (fun W (bW:Below w.heap.size w W) (a:Option Addr) (c:Nat) (hr:Rs W a R.length c R) (hy:Ty W a)=>fput_l (hL.later bW) (by have:=bW.size;omega) 1 0 R a c hr hy)
 have HM:=zk hm
 have HL:=zk hL
 obtain⟨la,lc,rfl⟩:=hL.form
 clear hm hL hR hY ht
 generalize strOfNums t=S at*
 generalize hn:R.length=nR at*
 go_enter Tryz.func104,Tryz.ntmps104
 go_wp2_with fail
 refine(zq CC _).mono ?_
 rintro e w1 ⟨a1,c1,rfl,r1,y1,b1⟩
 clear CC
 have CP1:=zk (zq CP w1 (zY (B1 _) b1) a1 c1 r1 y1)
 have BB:=zk (zY (B1 _) b1)
 clear CP r1 y1 b1
 go_wp2_with fail
 refine(zq CP1).mono ?_
 rintro e w2 ⟨v',rfl,lv,gr,nx,kr⟩
 clear CP1
 obtain⟨xa,xc,rfl⟩:=lv.form
 go_wp2_with fail
 go_ret
 exact Yi (zq HL) (zq HM).blk ((zq HM).later (zq BB)) (Fl.of (zq BB)) lv gr nx
theorem foct_l {D:Nat→Prop} {w:World} {B b m:Nat} {ns:List (List Int)} {d:Int} {s:Mk} {v:Value} {l:List SY} (n:Nat) (pv:Value) (p:PT) (hB:B≤w.heap.size) (h:Mak (fun k=>D k∧some k≠v.ownBlock) w B b m ns d s) (hL:LV w B v l) (hp:PartB B (n+1) w pv p) (hs:(rgP p).length≤1000000):
  Calls Tryz.prog 105 #[.pointer (some ⟨b,0,none⟩),v,pv] w (LfR D B b m ns d v w (s,ji l (0,rgP p,0))):=by
 obtain⟨mv,hm⟩:=h
 obtain⟨k,t,R,L,q,aR,cR,aL,cL,cs,rfl,rfl,f1,ht,f3,hR,hY,-⟩:=hp
 simp only[rg_mk]at hs⊢
 have B1:∀o,Below w.heap.size w (w.alloc o):=fun o=>Below.new1 o
 have CC:=zk (fun o=>cloneR_l aR cR R (w.alloc o) (hR.later (B1 o) (Nat.le_refl _)) hs)
 have CP:=zk (fun W (bW:Below w.heap.size w W) (a:Option Addr) (c:Nat) (hr:Rs W a R.length c R) (hy:Ty W a)=>fput_l (hL.later bW) (by have:=bW.size;omega) 0 0 R a c hr hy)
 have HM:=zk hm
 have HL:=zk hL
 obtain⟨la,lc,rfl⟩:=hL.form
 clear hm hL hR hY ht
 generalize strOfNums t=S at*
 generalize hn:R.length=nR at*
 go_enter Tryz.func105,Tryz.ntmps105
 go_wp2_with fail
 refine(zq CC _).mono ?_
 rintro e w1 ⟨a1,c1,rfl,r1,y1,b1⟩
 clear CC
 have CP1:=zk (zq CP w1 (zY (B1 _) b1) a1 c1 r1 y1)
 have BB:=zk (zY (B1 _) b1)
 clear CP r1 y1 b1
 go_wp2_with fail
 refine(zq CP1).mono ?_
 rintro e w2 ⟨v',rfl,lv,gr,nx,kr⟩
 clear CP1
 obtain⟨xa,xc,rfl⟩:=lv.form
 go_wp2_with fail
 go_ret
 exact Yi (zq HL) (zq HM).blk ((zq HM).later (zq BB)) (Fl.of (zq BB)) lv gr nx
def Z6 (ns:List (List Int)) (n:Nat) (d:Int):Prop:=
 ∀(D:Nat→Prop) (w:World) (B b m:Nat) (s:Mk) (v:Value) (l:List SY) (pv:Value) (p:PT),B≤w.heap.size→(∀k,w.heap.size≤k→D k)→Mak (fun k=>D k∧some k≠v.ownBlock) w B b m ns d s→LV w B v l→PartB B n w pv p→smP n p→
  Calls Tryz.prog 159 #[.pointer (some ⟨b,0,none⟩),v,pv] w (LfR D B b m ns d v w (zQ ns n d s l p))
theorem PtC.at {PV:Value→PT→Prop}:∀(ps:List PT) (cs:List Value) (j:Nat),PtC PV ps cs→j<ps.length→∃c0 c1 c2 c3 c4 p,cs[5*j]? =some c0∧cs[5*j+1]? =some c1∧cs[5*j+2]? =some c2∧cs[5*j+3]? =some c3∧cs[5*j+4]? =some c4∧PV (.agg #[c0,c1,c2,c3,c4]) p∧ps.drop j=p::ps.drop (j+1):=by
 intro ps
 induction ps with
 |nil=>intro cs j _ hj;simp at hj
 |cons x ps ih=>
  intro cs j h hj
  obtain⟨c0,c1,c2,c3,c4,cs',rfl,hv,ht⟩:=h
  cases j with
  |zero=>exact⟨c0,c1,c2,c3,c4,x,rfl,rfl,rfl,rfl,rfl,hv,rfl⟩
  |succ j=>
   obtain⟨d0,d1,d2,d3,d4,p,h0,h1,h2,h3,h4,h5,h6⟩:=ih cs' j ht (by simp at hj;omega)
   refine⟨d0,d1,d2,d3,d4,p,?_,?_,?_,?_,?_,h5,by simpa using h6⟩
   ·rw[show 5*(j+1)=5*j+1+1+1+1+1 by omega];simpa using h0
   ·rw[show 5*(j+1)+1=5*j+1+1+1+1+1+1 by omega];simpa using h1
   ·rw[show 5*(j+1)+2=5*j+2+1+1+1+1+1 by omega];simpa using h2
   ·rw[show 5*(j+1)+3=5*j+3+1+1+1+1+1 by omega];simpa using h3
   ·rw[show 5*(j+1)+4=5*j+4+1+1+1+1+1 by omega];simpa using h4
theorem PartB.form {B:Nat} {n:Nat} {w:World} {c0 c1 c2 c3 c4:Value} {p:PT} (h:PartB B n w (.agg #[c0,c1,c2,c3,c4]) p):∃k S a n1 c a' n' c',c0= .int .i64 k∧c1= .string S∧c2= .slice a n1 c∧c3= .slice a' n' c'∧c4= .int .i64 (atP p)∧k=kdP p:=by
 cases n with
 |zero=>exact h.elim
 |succ n=>
  obtain⟨kk,t,R,L,q,aR,cR,aL,cL,cs,rfl,e2,-⟩:=h
  simp only[Value.agg.injEq,Array.mk.injEq,List.cons.injEq,and_true]at e2
  obtain⟨rfl,rfl,rfl,rfl,rfl⟩:=e2
  exact⟨_,_,_,_,_,_,_,_,rfl,rfl,rfl,rfl,rfl,rfl⟩
theorem parts_at {B n:Nat} {w:World} {a:Option Addr} {len cap:Nat} {L:List PT} {cs:List Value} (hr:Row5 (fun g=>g<B) w a len cap cs) (hc:PtC (PartB B n w) L cs) (j:Nat) (hj:j<L.length):
  ∃g off k S a1 n1 c1 a2 n2 c2 p,a=some ⟨g,off,none⟩∧g<w.heap.size∧w.cell? ⟨g,off+5*j,none⟩=some (.int .i64 k)∧w.cell? ⟨g,off+5*j+1,none⟩=some (.string S)∧w.cell? ⟨g,off+5*j+2,none⟩=some (.slice a1 n1 c1)∧w.cell? ⟨g,off+5*j+3,none⟩=some (.slice a2 n2 c2)∧w.cell? ⟨g,off+5*j+4,none⟩=some (.int .i64 (atP p))∧
   PartB B n w (.agg #[.int .i64 k,.string S,.slice a1 n1 c1,.slice a2 n2 c2,.int .i64 (atP p)]) p∧L.drop j=p::L.drop (j+1):=by
 obtain⟨c0,c1,c2,c3,c4,p,h0,h1,h2,h3,h4,hv,hd⟩:=PtC.at L cs j hc hj
 obtain⟨k,S,a1,n1,d1,a2,n2,d2,rfl,rfl,rfl,rfl,rfl,-⟩:=PartB.form hv
 obtain⟨g,off,ha,-,q0⟩:=hr.2.2 _ _ h0
 have key:∀i u,cs[5*j+i]? =some u→w.cell? ⟨g,off+5*j+i,none⟩=some u:=fun i u hu=>by
  obtain⟨g',off',ha',-,q⟩:=hr.2.2 _ _ hu
  rw[ha]at ha'
  injection ha' with ha'
  injection ha' with e1 e2
  subst e1;subst e2
  rw[Nat.add_assoc];exact q
 exact⟨g,off,k,S,a1,n1,d1,a2,n2,d2,p,ha,zJ q0,q0,key 1 _ h1,key 2 _ h2,key 3 _ h3,key 4 _ h4,hv,hd⟩
theorem Row5.fl {B b:Nat} {x:Option Nat} {w X:World} (f:Fl B b x w X) (hB:B≤w.heap.size) {a:Option Addr} {len cap:Nat} {cs:List Value} (h:Row5 (fun g=>g<B) w a len cap cs):Row5 (fun g=>g<B) X a len cap cs:=
 h.kept (fun g hg=>⟨hg,f.low g hg (by omega)⟩)
theorem seq_bad {f:PF} {p:PT} {ps:List PT} {m:Mk} {l:List SY} (h:m.why≠0):Za f (p::ps) m l=(m,l):=by unfold Za;rw[if_pos h]
theorem seq_on {f:PF} {p:PT} {ps:List PT} {m:Mk} {l:List SY} (h:m.why=0):Za f (p::ps) m l=Za f ps (f m l p).1 (f m l p).2:=by
 conv=>lhs;unfold Za
 rw[if_neg (fun c=>c h)]
theorem fseq_l {ns:List (List Int)} {n:Nat} {d:Int} (HP:Z6 ns n d) {D:Nat→Prop} {w:World} {B b m:Nat} {s:Mk} {v:Value} {l:List SY} (pv:Value) (p:PT) (hB:B≤w.heap.size) (hD:∀k,w.heap.size≤k→D k) (h:Mak (fun k=>D k∧some k≠v.ownBlock) w B b m ns d s) (hL:LV w B v l) (hp:PartB B (n+1) w pv p) (hs:smP (n+1) p):
  Calls Tryz.prog 106 #[.pointer (some ⟨b,0,none⟩),v,pv] w (LfR D B b m ns d v w (Za (zQ ns n d) (psP p) s l)):=by
 obtain⟨mv,hm⟩:=h
 obtain⟨k,t,R,L,q,aR,cR,aL,cL,cs,rfl,rfl,f1,ht,f3,-,-,h5,hc⟩:=hp
 obtain⟨-,-,hsl,hsm⟩:=hs
 simp only[ps_mk]at hsl hsm⊢
 have B1:∀o,Below w.heap.size w (w.alloc o):=fun o=>Below.new1 o
 have hlt:=hm.lt
 have INV:=zk (fun W (bW:Below w.heap.size w W)=>InvL.start (D:=D) hL hm bW)
 have HR5:=zk h5
 have HPC:=zk hc
 have HSM:=zk hsm
 have HDD:=zk hD
 have HPP:=zk HP
 have MB:=zk hm.blk
 have VB:=zk hL.block
 obtain⟨la,lc,rfl⟩:=hL.form
 have hcl:=h5.1
 have hmx:=h5.2.1
 unfold maxLen at hmx
 clear hm hL h5 hc hsm hD HP ht
 generalize strOfNums t=S at*
 generalize hnL:L.length=nL at*
 have HNL:=zk hnL
 clear hnL
 go_enter Tryz.func106,Tryz.ntmps106
 go_wp2_with fail
 have INV0:=zk (zq INV _ (B1 (.cells #[.int .i64 k,.string S,.slice aR R.length cR,.slice aL nL cL,.int .i64 q] 149)))
 clear INV
 go_loopw [1,12] (fun lv i wr=>∃(j:Nat) (s':Mk) (l':List SY),j≤nL∧i= .int .i64 (j:Int)∧Hid (Za (zQ ns n d) L s l=Za (zQ ns n d) (L.drop j) s' l')∧Hid (InvL D B b m ns d (.slice la l.length lc) w s' lv l' wr)∧w.heap.size≤wr.heap.size) (fun _ i _=>nL-(intOf i).toNat)
 case atStart=>exact⟨0,s,l,Nat.zero_le _,rfl,rfl,INV0,(zq INV0).2.2.1.size⟩
 case round=>
  obtain⟨j,s',l',hj,rfl,hT,hI,hsw⟩:=hrel
  obtain⟨xa,xc,rfl⟩:=(zq hI).1.form
  by_cases hlt2:j<nL
  ·have KR1:KR w wr:=(zq hI).2.2.1.kr (zq MB).choose_spec.choose_spec (zq VB)
   obtain⟨g,off,k1,S1,a1,n1,c1,a2,n2,c2,p1,rfl,hg,q0,q1,q2,q3,q4,pv1,hd⟩:=parts_at (Row5.fl (zq hI).2.2.1 hB (zq HR5)) (PtC.mono (fun u x hx=>PartB.kept (fun g hg=>⟨hg,(zq hI).2.2.1.low g hg (by omega)⟩) KR1 n u x hx) _ _ (zq HPC)) j (by rw[zq HNL];exact hlt2)
   clear KR1
   have HPV:=zk pv1
   have HD1:=zk hd
   obtain⟨mv1,hmk⟩:=(zq hI).2.1
   have c14:=(yV hmk.cells).2.2.2.2.2.1
   have hb14:=hmk.lt
   have n5:j*5=5*j:=by omega
   clear pv1 hd hmk
   by_cases hw0:s'.why=0
   ·have hbb:(s'.why !=0)=false:=by rw[hw0];rfl
    have NXT:Hid (Za (zQ ns n d) L s l=Za (zQ ns n d) (L.drop (j+1)) (zQ ns n d s' l' p1).1 (zQ ns n d s' l' p1).2):=by show _=_;rw[zq hT,zq HD1,seq_on hw0]
    have SM1:Hid (smP n p1):=zq HSM p1 (List.mem_of_mem_drop (i:=j) (by rw[zq HD1];exact List.mem_cons_self ..))
    have CP:=zk (fun W (bW:Below wr.heap.size wr W)=>zq HPP D W B b m s' (.slice xa l'.length xc) l' _ p1 (by have:=bW.size;omega) (fun k hk=>zq HDD k (by have:=bW.size;omega)) ((zq hI).more bW).2.1 ((zq hI).1.later bW) (PartB.kept (fun g hg=>⟨hg,bW.block g (by omega)⟩) (KR.of bW) n _ p1 (zq HPV)) (zq SM1))
    clear hT HPV HD1 SM1 hw0
    go_wp2_with fail
    refine(zq CP _ (Below.new1 _)).mono ?_
    clear CP
    rintro e w2 lf
    obtain⟨v2,rfl,lv2,-⟩:=id lf
    obtain⟨ya,yc,rfl⟩:=lv2.form
    have NI:=zk (((zq hI).more (Below.new1 _)).on lf)
    have s2:=(zq NI).2.2.1.size
    clear lf lv2 hI
    go_wp2_with fail
    go_roundw
    case rel=>exact⟨j+1,_,_,by omega,by simp,NXT,NI,s2⟩
    case measure=>simp[intOf];omega
   ·have hbb:(s'.why !=0)=true:=by rw[bne_iff_ne];exact hw0
    have FIN:Hid (Za (zQ ns n d) L s l=(s',l')):=by show _=_;rw[zq hT,zq HD1,seq_bad hw0]
    clear hT HPV HD1 hw0
    go_wp2_with fail
    go_ret
    rw[zq FIN]
    exact((zq hI).more (Below.new1 _)).out
  ·obtain rfl:j=nL:=by omega
   have FIN:Hid (Za (zQ ns n d) L s l=(s',l')):=by
    show _=_
    rw[zq hT,List.drop_eq_nil_of_le (by rw[zq HNL];exact Nat.le_refl _)]
    rfl
   go_wp2_with fail
   go_ret
   rw[zq FIN]
   exact(zq hI).out
def AlR (D:Nat→Prop) (B b m:Nat) (ns:List (List Int)) (d:Int) (w:World) (r:Mk×List (List SY)) (e:Ending) (w':World):Prop:=
 ∃av,e= .returned av∧AltV D w' av r.2∧Mak D w' B b m ns d r.1∧Fl B b none w w'∧r.2.length≤9
theorem each_bad {f:PF} {p:PT} {ps:List PT} {m:Mk} {a:List (List SY)} (h:m.why≠0):jx f (p::ps) m a=(m,a):=by unfold jx;rw[if_pos h]
theorem each_on {f:PF} {p:PT} {ps:List PT} {m:Mk} {a:List (List SY)} (h:m.why=0):jx f (p::ps) m a=jx f ps (f m [] p).1 (if a.length≤8 then a++[(f m [] p).2]else a):=by
 conv=>lhs;unfold jx
 rw[if_neg (fun c=>c h)]
theorem syms_info:(Tryz.prog.info? 44).map (fun i=>(i.zero,i.size,i.bytes))=some (some (.slice none 0 0),1,24):=by kernel_rfl
theorem new_syms (w:World) (n:Nat) (x0:Value) (hn:n=w.heap.size):∀(j:Nat) (u:Value),[x0][j]? =some u→(w.alloc (.cells #[x0] 44)).cell? ((⟨n,0,none⟩:Addr).add j)=some u:=by
 subst hn
 exact World.news_of_block (cs:= #[x0]) (t:=44) (fr:=(0,0)) (heap_alloc_new w _)
def InvA (D:Nat→Prop) (B b m:Nat) (ns:List (List Int)) (d:Int) (w:World) (s:Mk) (av:Value) (A:List (List SY)) (wr:World):Prop:=
 AlV D wr w.heap.size av A∧Mak (fun k=>D k∧some k≠av.ownBlock) wr B b m ns d s∧Fl B b none w wr
theorem InvA.more {D:Nat→Prop} {B b m:Nat} {ns:List (List Int)} {d:Int} {w wr X:World} {s:Mk} {av:Value} {A:List (List SY)} (h:InvA D B b m ns d w s av A wr) (k:Below wr.heap.size wr X):InvA D B b m ns d w s av A X:=by
 obtain⟨⟨h1,cs,own,hs⟩,⟨mv,h2⟩,h3⟩:=h
 exact⟨⟨h1,cs,j5 k own,SqC.kp (Kp.of k) _ _ hs⟩,⟨mv,h2.later k⟩,h3.then (Fl.of (x:=none) k) (fun g e=>by cases e)⟩
theorem AlV.form {D:Nat→Prop} {w:World} {B:Nat} {v:Value} {A:List (List SY)} (h:AlV D w B v A):∃a c,v= .slice a A.length c:=by
 obtain⟨-,cs,own,-⟩:=h
 exact xu own
theorem InvA.dd {D:Nat→Prop} {B b m:Nat} {ns:List (List Int)} {d:Int} {w wr:World} {s:Mk} {av:Value} {A:List (List SY)} (h:InvA D B b m ns d w s av A wr) (hD:∀k,w.heap.size≤k→D k):∀k,wr.heap.size≤k→D k∧some k≠av.ownBlock:=by
 obtain⟨⟨h1,cs,own,hs⟩,-,h3⟩:=h
 intro k hk
 refine⟨hD k (Nat.le_trans h3.size hk),fun e=> ?_⟩
 have:=(own.lt k e.symm).2
 omega
theorem InvA.out {D:Nat→Prop} {B b m:Nat} {ns:List (List Int)} {d:Int} {w wr:World} {s:Mk} {av:Value} {A:List (List SY)} (h:InvA D B b m ns d w s av A wr) (hD:∀k,w.heap.size≤k→D k):AlR D B b m ns d w (s,A) (.returned av) wr:=by
 obtain⟨h1,⟨mv,h2⟩,h3⟩:=h
 refine⟨av,rfl,h1.alt (fun g hg=> ?_),⟨mv,h2.weak (fun g _ hd=>hd.1)⟩,h3,h1.1⟩
 obtain⟨-,cs,own,-⟩:=h1
 exact hD g (own.lt g hg).1
theorem InvA.part {D:Nat→Prop} {B b m:Nat} {ns:List (List Int)} {d:Int} {w wr w2:World} {s:Mk} {av v2:Value} {A:List (List SY)} {r:Mk×List SY} (h:InvA D B b m ns d w s av A wr) (hD:∀k,w.heap.size≤k→D k) (lf:LfR (fun k=>D k∧some k≠av.ownBlock) B b m ns d (.slice none 0 0) wr r (.returned v2) w2):InvA D B b m ns d w r.1 av A w2∧SymsV D w2 v2 r.2:=by
 obtain⟨h1,⟨mv,h2⟩,h3⟩:=h
 obtain⟨v',e,lv,⟨mv',mk'⟩,fl,nx⟩:=lf
 injection e with e
 subst e
 have s3:=h3.size
 refine⟨⟨?_,⟨mv',mk'.weak (fun g _ hd=>hd.1)⟩,h3.then fl (fun g e=>by cases e)⟩,lv.syms (fun g hg=> ?_)⟩
 ·obtain⟨a1,cs,own,hs⟩:=h1
  refine⟨a1,cs,YZ own (fun g o hg ho=> ?_),SqC.kp (fl.kp h2.cells (fun k e=>by cases e) (fun g _ hd=>⟨by simp[Value.ownBlock],hd⟩)) _ _ hs⟩
  obtain⟨c1,hc⟩:=ju own g hg
  rw[hc]at ho
  injection ho with ho
  subst ho
  exact fl.block g _ hc (yq hc h2.cells (by decide)) (by simp[Value.ownBlock]) (fun c2 f2 e=>by injection e with _ e;exact absurd e (by decide))
 ·rcases nx g hg with c|c
  ·cases c
  ·exact hD g (by omega)
theorem InvA.snoc {D:Nat→Prop} {B b m:Nat} {ns:List (List Int)} {d:Int} {w wr w6:World} {s:Mk} {av v2:Value} {A:List (List SY)} {l:List SY} {o:Obj} {gg cap:Nat} {cs:List Value} (h:InvA D B b m ns d w s av A wr) (hA:A.length≤8) (hv:SymsV D wr v2 l) (hs:SqC D wr A cs) (hl:wr.ownsRow w.heap.size 44 1 av A.length cs) (hB:B≤w.heap.size)
  (ho:w6.ownsRow w.heap.size 44 1 (.slice (some ⟨gg,0,none⟩) (A.length+1) cap) (A.length+1) (cs++[v2])) (hg:(wr.alloc o).grownBy w6 av.ownBlock) (hat:av.ownBlock=some gg∨gg=(wr.alloc o).heap.size):InvA D B b m ns d w s (.slice (some ⟨gg,0,none⟩) (A.length+1) cap) (A++[l]) w6:=by
 have h':=h.more (Below.new1 (w:=wr) o)
 obtain⟨-,⟨mv,h2⟩,h3⟩:=h'
 have blk:∀k,av.ownBlock=some k→w.heap.size≤k∧∃cs,(wr.alloc o).heap[k]? =some (.cells cs 44):=fun k hk=>by
  obtain⟨c,hc⟩:=ju hl k hk
  exact⟨(hl.lt k hk).1,c,zK hc o⟩
 have hne:∀(k:Nat) (o':Obj),(wr.alloc o).heap[k]? =some o'→(∀c fr,o'≠ .cells c 44 fr)→w6.heap[k]? =some o':=fun k o' hk hno=>by
  rw[hg.block k (Array.getElem?_eq_some_iff.1 hk).1 (fun e=> ?_)]
  ·exact hk
  ·obtain⟨-,c,hc⟩:=blk k e.symm
   rw[hk]at hc;injection hc with hc;exact hno _ _ hc
 have ne_t:∀(cs:Array Value) (t:TypeId) (fr:Nat×Nat),t≠44→∀c f,Obj.cells cs t fr≠ .cells c 44 f:=fun cs t fr ht c f e=>by injection e with _ e;exact ht e
 have kr:KR (wr.alloc o) w6:=fun g c fr hk=>hne g _ hk (ne_t _ _ _ (by decide))
 refine⟨⟨by rw[List.length_append];simp;omega,_,by rw[List.length_append];exact ho,?_⟩,⟨mv,⟨h2.hB,h2.hm,h2.d0,h2.l0,hne b _ h2.cells (ne_t _ _ _ (by decide)),?_,?_⟩⟩,?_⟩
 ·have hv':SymsV D w6 v2 l:=by
   obtain⟨a,c,cs',e,hr,hy⟩:=hv
   exact⟨a,c,cs',e,hr.kept (fun g cur fr hd hgg=>⟨hd,hne g _ (zK hgg o) (ne_t _ _ _ (by decide))⟩),SyC.kr ((KR.of (Below.new1 o)).then kr) _ _ hy⟩
  have mono:∀(A:List (List SY)) (cs:List Value),SqC D wr A cs→SqC D w6 A cs:=by
   intro A
   induction A with
   |nil=>intro cs h;exact h
   |cons l A ih=>
    intro cs h
    obtain⟨c0,cs',e,⟨a,c,cs2,e2,hr,hy⟩,ht⟩:=h
    exact⟨c0,cs',e,⟨a,c,cs2,e2,hr.kept (fun g cur fr hd hgg=>⟨hd,hne g _ (zK hgg o) (ne_t _ _ _ (by decide))⟩),SyC.kr ((KR.of (Below.new1 o)).then kr) _ _ hy⟩,ih _ ht⟩
  exact SqC.snoc hv' _ _ (mono _ _ hs)
 ·obtain⟨m1,cs',own,hp⟩:=h2.made
  refine⟨m1,cs',YZ own (fun g o' hgg ho'=> ?_),PrC.kp ⟨kr,fun g cur fr t ht hd hgg=>⟨⟨hd.1,fun e=> ?_⟩,?_⟩⟩ _ _ hp⟩
  ·obtain⟨c1,hc⟩:=ju own g hgg
   rw[hc]at ho'
   injection ho' with ho'
   subst ho'
   exact hne g _ hc (ne_t _ _ _ (by decide))
  ·rw[hg.block g (Array.getElem?_eq_some_iff.1 hgg).1 hd.2];exact hgg
  ·simp only[Value.ownBlock,Option.some.injEq]at e
   rcases hat with c|c
   ·exact hd.2 (by rw[c,e])
   ·have:=(Array.getElem?_eq_some_iff.1 hgg).1;omega
 ·exact h2.names.keep (fun o' ho' hno=>hne m o' ho' (fun c f=>hno _ _ _))
 ·refine⟨hg.os.trans h3.os,hg.tape.trans h3.tape,hg.output.trans h3.output,Nat.le_trans h3.size hg.size,fun k h1 h2=> ?_,fun k o' h1 h2 h3' h4=> ?_⟩
  ·rw[hg.block k (Nat.lt_of_lt_of_le h2 h3.size) (fun e=>by have:=(blk k e.symm).1;omega)]
   exact h3.low k h1 h2
  ·have hk:=(Array.getElem?_eq_some_iff.1 h1).1
   rw[hg.block k (Nat.lt_of_lt_of_le hk h3.size) (fun e=>by have:=(blk k e.symm).1;omega)]
   exact h3.block k o' h1 h2 h3' h4
theorem feach_l {ns:List (List Int)} {n:Nat} {d:Int} (HP:Z6 ns n d) {D:Nat→Prop} {w:World} {B b m:Nat} {s:Mk} (pv:Value) (p:PT) (k0 n0:Int) (sa:Option Addr) (sn sc:Nat) (hB:B≤w.heap.size) (hD:∀k,w.heap.size≤k→D k) (h:Mak D w B b m ns d s) (hp:PartB B (n+1) w pv p) (hs:smP (n+1) p):
  Calls Tryz.prog 161 #[.pointer (some ⟨b,0,none⟩),pv,.agg #[.int .i64 k0,.slice sa sn sc,.int .i64 n0]] w (AlR D B b m ns d w (jx (zQ ns n d) (psP p) s [])):=by
 obtain⟨mv,hm⟩:=h
 obtain⟨k,t,R,L,q,aR,cR,aL,cL,cs,rfl,rfl,f1,ht,f3,-,-,h5,hc⟩:=hp
 obtain⟨-,-,hsl,hsm⟩:=hs
 simp only[ps_mk]at hsl hsm⊢
 have B2:∀o1 o2,Below w.heap.size w ((w.alloc o1).alloc o2):=fun o1 o2=>(Below.new1 o1).alloc (by simp) o2
 have hlt:=hm.lt
 have INV:=zk (fun W (bW:Below w.heap.size w W)=>show InvA D B b m ns d w s (.slice none 0 0) [] W from⟨⟨Nat.zero_le _,[],World.ownsRow_nil _ _ _ _,rfl⟩,⟨mv,(hm.later bW).weak (fun g _ hd=>⟨hd,by simp[Value.ownBlock]⟩)⟩,Fl.of bW⟩)
 have HR5:=zk h5
 have HPC:=zk hc
 have HSM:=zk hsm
 have HDD:=zk hD
 have HPP:=zk HP
 have MB:=zk hm.blk
 have hcl:=h5.1
 have hmx:=h5.2.1
 unfold maxLen at hmx
 clear hm h5 hc hsm hD HP ht
 generalize strOfNums t=S at*
 generalize hnL:L.length=nL at*
 have HNL:=zk hnL
 clear hnL
 go_enter Tryz.func161,Tryz.ntmps161
 go_wp2_with fail
 have INV0:=zk (zq INV _ (B2 (.cells #[.int .i64 k,.string S,.slice aR R.length cR,.slice aL nL cL,.int .i64 q] 149) (.cells #[.int .i64 k0,.slice sa sn sc,.int .i64 n0] 43)))
 clear INV
 go_loopw [7,14] (fun av i wr=>∃(j:Nat) (s':Mk) (A:List (List SY)),j≤nL∧i= .int .i64 (j:Int)∧Hid (jx (zQ ns n d) L s []=jx (zQ ns n d) (L.drop j) s' A)∧Hid (InvA D B b m ns d w s' av A wr)∧w.heap.size≤wr.heap.size) (fun _ i _=>nL-(intOf i).toNat)
 case atStart=>exact⟨0,s,[],Nat.zero_le _,rfl,rfl,INV0,(zq INV0).2.2.size⟩
 case round=>
  obtain⟨j,s',A,hj,rfl,hT,hI,hsw⟩:=hrel
  obtain⟨xa,xc,rfl⟩:=(zq hI).1.form
  have h9:=(zq hI).1.1
  by_cases hlt2:j<nL
  ·have KR1:KR w wr:=(zq hI).2.2.kr (zq MB).choose_spec.choose_spec (Zv _)
   obtain⟨g,off,k1,S1,a1,n1,c1,a2,n2,c2,p1,rfl,hg,q0,q1,q2,q3,q4,pv1,hd⟩:=parts_at (Row5.fl (zq hI).2.2 hB (zq HR5)) (PtC.mono (fun u x hx=>PartB.kept (fun g hg=>⟨hg,(zq hI).2.2.low g hg (by omega)⟩) KR1 n u x hx) _ _ (zq HPC)) j (by rw[zq HNL];exact hlt2)
   clear KR1
   have HPV:=zk pv1
   have HD1:=zk hd
   obtain⟨mv1,hmk⟩:=(zq hI).2.1
   have c14:=(yV hmk.cells).2.2.2.2.2.1
   have hb14:=hmk.lt
   have n5:j*5=5*j:=by omega
   clear pv1 hd hmk
   by_cases hw0:s'.why=0
   ·have hbb:(s'.why !=0)=false:=by rw[hw0];rfl
    have NXT:Hid (jx (zQ ns n d) L s []=jx (zQ ns n d) (L.drop (j+1)) (zQ ns n d s' [] p1).1 (if A.length≤8 then A++[(zQ ns n d s' [] p1).2]else A)):=by show _=_;rw[zq hT,zq HD1,each_on hw0]
    have SM1:Hid (smP n p1):=zq HSM p1 (List.mem_of_mem_drop (i:=j) (by rw[zq HD1];exact List.mem_cons_self ..))
    have CP:=zk (fun W (bW:Below wr.heap.size wr W)=>zq HPP (fun k=>D k∧some k≠(Value.slice xa A.length xc).ownBlock) W B b m s' (.slice none 0 0) [] _ p1 (by have:=bW.size;omega) (((zq hI).more bW).dd (zq HDD)) (by
      obtain⟨mv9,h9⟩:=((zq hI).more bW).2.1
      exact⟨mv9,h9.weak (fun g _ hd=>⟨hd,by simp[Value.ownBlock]⟩)⟩) (LV.nil W B) (PartB.kept (fun g hg=>⟨hg,bW.block g (by omega)⟩) (KR.of bW) n _ p1 (zq HPV)) (zq SM1))
    clear hT HPV HD1 SM1 hw0
    generalize hr:zQ ns n d s' [] p1=r at*
    clear hr
    go_wp2_with fail
    refine(zq CP _ (Below.new1 _)).mono ?_
    clear CP
    rintro e w2 lf
    obtain⟨v2,rfl,lv2,-⟩:=id lf
    obtain⟨ya,yc,rfl⟩:=lv2.form
    obtain⟨NI,SV⟩:=((zq hI).more (Below.new1 _)).part (zq HDD) lf
    have HNI:=zk NI
    have HSV:=zk SV
    have s2:=NI.2.2.size
    clear lf lv2 hI SV NI
    by_cases h8:A.length≤8
    ·rw[if_pos h8]at NXT
     have b8:decide ((A.length:Int)≤8)=true:=decide_eq_true (by omega)
     obtain⟨ti,hi0,hz0,hz1,hz2⟩:=info_parts syms_info
     obtain⟨-,cs2,HO,hsq⟩:=(zq HNI).1
     have HSQ:=zk hsq
     clear hsq
     go_wp2_with (at_builtin;refine wpList_append_lies _ rfl _ _ 38 rfl w.heap.size 44 ti _ 1 24 Tryz.underlying38 hi0 hz0 hz1 hz2 rfl (by omega) _ _ _ rfl (HO.alloc _) ⟨w2.heap.size,0,none⟩ 1 1 [.slice ya r.2.length yc] rfl rfl (new_syms _ _ _ rfl) (by simp[Value.oneCell']) (by omega) (by unfold maxLen;omega) (by omega) (by simp;omega) (w2.heap.size+1) (by simp) ?_;intro gg cap1 w6 hown1 hgrow hat hlt1)
     have NI2:=zk ((zq HNI).snoc h8 (zq HSV) (zq HSQ) HO hB hown1 hgrow (by rcases hat with h|h;exact .inl h;exact .inr (by simp[h])))
     have s6:=(zq NI2).2.2.size
     clear hown1 hgrow hat HO HSQ HNI
     (try go_wp2_with fail)
     go_roundw
     case rel=>exact⟨j+1,_,A++[r.2],by omega,by simp,NXT,NI2,s6⟩
     case measure=>simp[intOf];omega
    ·rw[if_neg h8]at NXT
     have b8:decide ((A.length:Int)≤8)=false:=decide_eq_false (by omega)
     go_wp2_with fail
     go_roundw
     case rel=>exact⟨j+1,_,A,by omega,by simp,NXT,HNI,s2⟩
     case measure=>simp[intOf];omega
   ·have hbb:(s'.why !=0)=true:=by rw[bne_iff_ne];exact hw0
    have FIN:Hid (jx (zQ ns n d) L s []=(s',A)):=by show _=_;rw[zq hT,zq HD1,each_bad hw0]
    clear hT HPV HD1 hw0
    go_wp2_with fail
    go_ret
    rw[zq FIN]
    exact((zq hI).more (Below.new1 _)).out (zq HDD)
  ·obtain rfl:j=nL:=by omega
   have FIN:Hid (jx (zQ ns n d) L s []=(s',A)):=by
    show _=_
    rw[zq hT,List.drop_eq_nil_of_le (by rw[zq HNL];exact Nat.le_refl _)]
    rfl
   go_wp2_with fail
   go_ret
   rw[zq FIN]
   exact(zq hI).out (zq HDD)
theorem only_one {f:PF} {p x:PT} {m:Mk} (h:psP p=[x]):xV f p m=f m [] x:=by unfold xV;rw[h]
theorem only_not {f:PF} {p:PT} {m:Mk} (h:(psP p).length≠1):xV f p m=(m.stop (atP p) 7,[]):=by
 unfold xV
 split
 ·rename_i x e;rw[e]at h;simp at h
 ·rfl
theorem fonly_l {ns:List (List Int)} {n:Nat} {d:Int} (HP:Z6 ns n d) {D:Nat→Prop} {w:World} {B b m:Nat} {s:Mk} (pv:Value) (p:PT) (hB:B≤w.heap.size) (hD:∀k,w.heap.size≤k→D k) (h:Mak D w B b m ns d s) (hp:PartB B (n+1) w pv p) (hs:smP (n+1) p):
  Calls Tryz.prog 199 #[.pointer (some ⟨b,0,none⟩),pv] w (LfR D B b m ns d (.slice none 0 0) w (xV (zQ ns n d) p s)):=by
 obtain⟨mv,hm⟩:=h
 obtain⟨k,t,R,L,q,aR,cR,aL,cL,cs,rfl,rfl,f1,ht,f3,-,-,h5,hc⟩:=hp
 obtain⟨-,-,hsl,hsm⟩:=hs
 simp only[ps_mk]at hsl hsm
 have B1:∀o,Below w.heap.size w (w.alloc o):=fun o=>Below.new1 o
 have hlt:=hm.lt
 have hcl:=h5.1
 have hmx:=h5.2.1
 unfold maxLen at hmx
 by_cases h1:L.length=1
 ·obtain⟨x,rfl⟩:=List.length_eq_one_iff.1 h1
  have FIN:Hid (xV (zQ ns n d) (mk k t R [x] q) s=zQ ns n d s [] x):=only_one rfl
  obtain⟨g,off,k1,S1,a1,n1,c1,a2,n2,c2,p1,rfl,hg,q0,q1,q2,q3,q4,pv1,hd⟩:=parts_at h5 hc 0 (by simp)
  have e1:x=p1:=by simpa using hd
  subst e1
  simp only[Nat.mul_zero,Nat.add_zero,List.length_cons,List.length_nil,Nat.zero_add]at q0 q1 q2 q3 q4 hcl⊢
  have Q0:∀o,(w.alloc o).cell? ⟨g,off,none⟩=some (.int .i64 k1):=fun o=>((B1 o).cell hg).trans q0
  have Q1:∀o,(w.alloc o).cell? ⟨g,off+1,none⟩=some (.string S1):=fun o=>((B1 o).cell hg).trans q1
  have Q2:∀o,(w.alloc o).cell? ⟨g,off+2,none⟩=some (.slice a1 n1 c1):=fun o=>((B1 o).cell hg).trans q2
  have Q3:∀o,(w.alloc o).cell? ⟨g,off+3,none⟩=some (.slice a2 n2 c2):=fun o=>((B1 o).cell hg).trans q3
  have Q4:∀o,(w.alloc o).cell? ⟨g,off+4,none⟩=some (.int .i64 (atP x)):=fun o=>((B1 o).cell hg).trans q4
  have CP:=zk (fun W (bW:Below w.heap.size w W)=>HP D W B b m s (.slice none 0 0) [] _ x (by have:=bW.size;omega) (fun k hk=>hD k (by have:=bW.size;omega)) ⟨mv,(hm.later bW).weak (fun g _ hd=>⟨hd,by simp[Value.ownBlock]⟩)⟩ (LV.nil W B) (PartB.kept (fun g hg=>⟨hg,bW.block g (by omega)⟩) (KR.of bW) n _ x pv1) (hsm x (by simp)))
  clear hm h5 hc hsm hD HP ht q0 q1 q2 q3 q4 pv1 hd h1
  generalize strOfNums t=S at*
  go_enter Tryz.func199,Tryz.ntmps199
  go_wp2_with fail
  refine(zq CP _ (B1 _)).mono ?_
  clear CP
  rintro e w2 lf
  obtain⟨v2,rfl,lv2,-⟩:=id lf
  obtain⟨ya,yc,rfl⟩:=lv2.form
  have HLF:=zk lf
  clear lf lv2
  go_wp2_with fail
  go_ret
  rw[zq FIN]
  obtain⟨v3,e3,l1,l2,l3,l4⟩:=zq HLF
  refine⟨v3,e3,l1,l2,(Fl.of (x:=none) (B1 _)).then l3 (fun g e=>by cases e),fun g hg=> ?_⟩
  rcases l4 g hg with c|c
  ·exact .inl c
  ·exact .inr (Nat.le_trans (Nat.le_succ _) (by simpa using c))
 ·have FIN:Hid (xV (zQ ns n d) (mk k t R L q) s=(s.stop q 7,[])):=only_not (by simpa using h1)
  have hbb:((L.length:Int) !=1)=true:=by rw[bne_iff_ne];omega
  have CS:=zk (fun W (bW:Below w.heap.size w W)=>Yx (hm.later bW) q 7)
  have hBm:=hm.hB
  clear hm h5 hc hsm hD HP ht
  generalize strOfNums t=S at*
  generalize L.length=nL at*
  go_enter Tryz.func199,Tryz.ntmps199
  go_wp2_with fail
  refine(zq CS _ (B1 _)).mono ?_
  rintro e w2 ⟨rfl,hm2,f2⟩
  clear CS
  go_wp2_with fail
  go_ret
  rw[zq FIN]
  exact⟨_,rfl,LV.nil _ _,⟨mv,hm2.weak (fun g _ hd=>⟨hd,by simp[Value.ownBlock]⟩)⟩,(Fl.of (x:=none) (B1 _)).then f2 (fun g e=>by cases e),Nx.refl _ _⟩
/-! ### Symbols are copied -/
def smS (l:List SY):Prop:=∀s∈l,s.2.1.length≤1000000
theorem SyC.one {w:World}:∀(l:List SY) (cs:List Value),SyC w l cs→∀u∈cs,u.oneCell'=true:=by
 intro l
 induction l with
 |nil=>intro cs h u hu;have:cs=[]:=h;subst this;cases hu
 |cons s l ih=>
  intro cs h u hu
  obtain⟨a,c,cs',rfl,-,-,ht⟩:=h
  rcases List.mem_cons.1 hu with rfl|hu
  ·rfl
  rcases List.mem_cons.1 hu with rfl|hu
  ·rfl
  rcases List.mem_cons.1 hu with rfl|hu
  ·rfl
  exact ih _ ht u hu
theorem SyC.at {w:World}:∀(l:List SY) (cs:List Value) (j:Nat),SyC w l cs→j<l.length→∃s a c,s∈l∧l.drop j=s::l.drop (j+1)∧cs[3*j]? =some (.int .i64 s.1)∧cs[3*j+1]? =some (.slice a s.2.1.length c)∧cs[3*j+2]? =some (.int .i64 s.2.2)∧Rs w a s.2.1.length c s.2.1∧Ty w a∧
  ∀(X:World) (a':Option Addr) (c':Nat),KR w X→Rs X a' s.2.1.length c' s.2.1→Ty X a'→SyC X l (cs.set (3*j+1) (.slice a' s.2.1.length c')):=by
 intro l
 induction l with
 |nil=>intro cs j _ hj;simp at hj
 |cons x l ih=>
  intro cs j h hj
  obtain⟨a,c,cs',rfl,hr,hy,ht⟩:=h
  cases j with
  |zero=>exact⟨x,a,c,List.mem_cons_self ..,rfl,rfl,rfl,rfl,hr,hy,fun X a' c' k hr' hy'=>⟨a',c',cs',rfl,hr',hy',SyC.kr k _ _ ht⟩⟩
  |succ j=>
   obtain⟨s,a1,c1,hm,hd,h0,h1,h2,hr1,hy1,hset⟩:=ih cs' j ht (by simp at hj;omega)
   refine⟨s,a1,c1,List.mem_cons_of_mem _ hm,by simpa using hd,?_,?_,?_,hr1,hy1,fun X a' c' k hr' hy'=> ?_⟩
   ·rw[show 3*(j+1)=3*j+1+1+1 by omega];simpa using h0
   ·rw[show 3*(j+1)+1=3*j+1+1+1+1 by omega];simpa using h1
   ·rw[show 3*(j+1)+2=3*j+2+1+1+1 by omega];simpa using h2
   ·obtain⟨q1,q2⟩:=vK k hr hy
    refine⟨a,c,cs'.set (3*j+1) (.slice a' s.2.1.length c'),?_,q1,q2,hset X a' c' k hr' hy'⟩
    rw[show 3*(j+1)+1=3*j+1+1+1+1 by omega]
    rfl
theorem cloneS_l {B:Nat} (v:Value) (l:List SY) (w:World) (h:LV w B v l):
  Calls Tryz.prog 228 #[v] w fun e w'=>∃v',e= .returned v'∧LV w' w.heap.size v' l∧Below w.heap.size w w':=by
 obtain⟨a,c,rfl⟩:=h.form
 obtain⟨h41,cs,own,hs⟩:=h
 have hcl:=SyC.len _ _ hs
 cases a with
 |none=>
  have hl0:l=[]:=by
   rcases own.2 with ⟨e,h0⟩|⟨g,cap,cur,e,-⟩
   ·exact List.eq_nil_of_length_eq_zero h0
   ·injection e with e1;cases e1
  subst hl0
  clear own hs hcl
  have heq:∀W,(binOp .eql 44 (.slice none 0 c) (.slice none 0 0)).run Tryz.prog W= .ok (.bool true) W:=fun W=>by kernel_rfl
  go_enter Tryz.func228,Tryz.ntmps228
  go_wp2_with fail
  go_ret
  exact⟨_,rfl,LV.nil _ _,Below.refl _ _⟩
 |some ad=>
  obtain⟨i0,hi0,hz0,hz1,hz2⟩:=info_parts sym_info
  have HN:∀o,∀(j:Nat) (u:Value),cs[j]? =some u→(w.alloc o).cell? (ad.add j)=some u:=by
   intro o j u hu
   obtain⟨g',h1,h2,-⟩:=own_cell own hu
   simp only[Value.ownBlock]at h1
   rcases own.2 with ⟨e,h0⟩|⟨g,cap,cur,e,hb,hg,-⟩
   ·cases e
   ·injection e with e1 e2 e3
    injection e1 with e1
    subst e1
    injection h1 with h1
    subst h1
    rw[Addr.add_lit,Nat.zero_add,World.cell?_of_block ((Below.new1 o).block _ (Array.getElem?_eq_some_iff.1 hg).1)]
    exact h2
  have heq:∀W,(binOp .eql 44 (.slice (some ad) l.length c) (.slice none 0 0)).run Tryz.prog W= .ok (.bool false) W:=fun W=>by kernel_rfl
  have H1:=SyC.one _ _ hs
  have HS:=zk hs
  clear hs own
  have HO:∀w:World,(w.alloc (.cells #[] 43)).ownsRow w.heap.size 43 3 (.slice (some ⟨w.heap.size,0,none⟩) 0 0) 0 []:=fun w=>World.ownsRow_made w #[] 0 (Nat.le_refl _) (Nat.zero_le _) rfl
  have hcl':cs.length=l.length*3:=by omega
  clear hcl
  go_enter Tryz.func228,Tryz.ntmps228
  go_wp2_with (at_builtin;refine wpList_append_own _ rfl _ _ 44 rfl w.heap.size 43 i0 _ 3 40 Tryz.underlying44 hi0 hz0 hz1 hz2 rfl (by omega) _ _ _ rfl (HO w) ad l.length c cs rfl hcl' (HN _) H1 (by unfold maxLen;omega) (by omega) (by simp) ?_;intro v' w6 hown1 hgrow hnil)
  go_ret
  rw[Nat.zero_add,List.nil_append]at hown1
  have hg2:(w.alloc (.cells #[] 43)).grownBy w6 (some w.heap.size):=hgrow
  have B6:Below w.heap.size w w6:=(Below.new1 _).grown hg2 (by simp) (fun k hk=>by injection hk;omega)
  exact⟨v',rfl,⟨h41,cs,hown1,SyC.kr (KR.of B6) _ _ (zq HS)⟩,B6⟩
theorem copied_l {B:Nat} (v:Value) (l:List SY) (w:World) (h:LV w B v l) (hsm:smS l):
  Calls Tryz.prog 200 #[v] w fun e w'=>∃v',e= .returned v'∧LV w' w.heap.size v' l∧Below w.heap.size w w':=by
 have C1:=zk (cloneS_l v l w h)
 obtain⟨a,c,rfl⟩:=h.form
 have h41:=h.1
 have HSM:=zk hsm
 clear h hsm
 generalize hn:l.length=n at*
 have HN:=zk hn
 clear hn
 go_enter Tryz.func200,Tryz.ntmps200
 go_wp2_with fail
 refine(zq C1).mono ?_
 clear C1
 rintro e w1 ⟨v1,rfl,lv1,b1⟩
 obtain⟨a1,c1,rfl⟩:=lv1.form
 rw[zq HN]at lv1⊢
 have hcap:n≤c1∧c1≤maxLen:=by
  obtain⟨-,cs,own,-⟩:=lv1
  rw[zq HN]at own
  rcases own.2 with ⟨e,h0⟩|⟨g,cap,cur,e,hb,hg,k1,k2,-⟩
  ·injection e with e1 e2 e3;subst e3;unfold maxLen;omega
  ·injection e with e1 e2 e3;subst e3;exact⟨k1,k2⟩
 obtain⟨hc1,hc2⟩:=hcap
 unfold maxLen at hc2
 have LV1:=zk lv1
 have B1:=zk b1
 have s1:=b1.size
 clear lv1 b1
 go_wp2_with fail
 go_loopw [8] (fun i wr=>∃(j:Nat),j≤n∧i= .int .i64 (j:Int)∧Hid (LV wr w.heap.size (.slice a1 n c1) l)∧Hid (Below w.heap.size w wr)∧w.heap.size≤wr.heap.size) (fun i _=>n-(intOf i).toNat)
 case atStart=>exact⟨0,Nat.zero_le _,rfl,LV1,B1,s1⟩
 case round=>
  obtain⟨j,hj,rfl,hL,hB,hsw⟩:=hrel
  by_cases hlt:j<n
  ·obtain⟨k41,cs,own,hs⟩:=zq hL
   obtain⟨s,a2,c2,hm,hd,q0,q1,q2,hr,hy,hset⟩:=SyC.at l cs j hs (by rw[zq HN];exact hlt)
   obtain⟨g,e1,cg,fg⟩:=own_cell own q1
   have e2:a1=some ⟨g,0,none⟩:=by
    rcases own.2 with ⟨e,h0⟩|⟨g',cap,cur,e,-⟩
    ·rw[zq HN]at h0;omega
    ·injection e with e1' e2 e3
     subst e1'
     simp only[Value.ownBlock,Option.some.injEq]at e1
     rw[e1]
   subst e2
   have hgl:g<wr.heap.size:=(own.lt g e1).2
   have hgB:w.heap.size≤g:=(own.lt g e1).1
   obtain⟨gc,hgc⟩:=ju own g e1
   have CC:=zk (fun W (bW:Below wr.heap.size wr W)=>cloneR_l a2 c2 s.2.1 W (hr.later bW (Nat.le_refl _)) (zq HSM s hm))
   have NXT:=zk (fun(w2:World) (b2:Below wr.heap.size wr w2) (a':Option Addr) (c':Nat) (hr':Rs w2 a' s.2.1.length c' s.2.1) (hy':Ty w2 a')=>show LV (w2.setCell ⟨g,3*j+1,none⟩ (.slice a' s.2.1.length c')) w.heap.size (.slice (some ⟨g,0,none⟩) n c1) l from by
    have k2:KR w2 (w2.setCell ⟨g,3*j+1,none⟩ (.slice a' s.2.1.length c')):=KR.set (KR.refl _) ((b2.block g hgl).trans hgc) (by decide) _ _
    obtain⟨r1,r2⟩:=vK k2 hr' hy'
    refine⟨k41,_,own_set (j5 b2 own) e1 ?_ _,hset _ a' c' ((KR.of b2).then k2) r1 r2⟩
    exact(List.getElem?_eq_some_iff.1 q1).1)
   have FZ:=zk (fun(w2:World) (b2:Below wr.heap.size wr w2)=>show w2.cell? ⟨g,3*j+1,none⟩=some (.slice a2 s.2.1.length c2)∧w2.frozen? ⟨g,3*j+1,none⟩=false from by
    obtain⟨g',e',c',f'⟩:=own_cell (j5 b2 own) q1
    rw[e1]at e';injection e' with e';subst e'
    exact⟨c',f'⟩)
   have n3:j*3=3*j:=by omega
   generalize hR:s.2.1=R at*
   generalize hRn:R.length=rn at*
   have HRN:=zk hRn
   clear own hs hd q0 q1 q2 hr hy hset hgc fg e1 hm hR hRn
   go_wp2_with fail
   refine(zq CC _ (Below.refl _ _)).mono ?_
   clear CC
   rintro e w2 ⟨a3,c3,rfl,r3,y3,b2⟩
   obtain⟨cg2,fg2⟩:=zq FZ w2 b2
   have NX:=zk (zq NXT w2 b2 a3 c3 r3 y3)
   have hgl2:g<w2.heap.size:=Nat.lt_of_lt_of_le hgl b2.size
   have BB:=zk (show Below w.heap.size w (w2.setCell ⟨g,3*j+1,none⟩ (.slice a3 rn c3)) from((zq hB).trans (b2.mono hsw)).setCell (p:=⟨g,3*j+1,none⟩) hgB _)
   have s2:w.heap.size≤(w2.setCell ⟨g,3*j+1,none⟩ (.slice a3 rn c3)).heap.size:=(zq BB).size
   clear NXT FZ r3 y3 b2 hL hB
   go_wp2_with fail
   go_roundw
   case rel=>exact⟨j+1,by omega,by simp,NX,BB,s2⟩
   case measure=>simp[intOf];omega
  ·obtain rfl:j=n:=by omega
   go_wp2_with fail
   go_ret
   exact⟨_,rfl,zq hL,zq hB⟩
def byB (l:List (Int×Int)):Bool:=decide (l.length=0)||decide ((l.getD (l.length-1) (0,0)).2≤255)
def symB (s:SY) (many:Int):Bool:=
 if s.1=0 then decide (s.2.2=0)&&(G.zo s.2.1&&byB s.2.1)
 else if s.1=1 then decide (s.2.2=0)&&G.zo s.2.1
 else if s.1=2 then decide (0≤s.2.2)&&(decide (s.2.2<many)&&decide (s.2.1.length=0))
 else false
def prodB (p:PRD) (many:Int):Bool:=fitsB p.1&&(decide (0≤p.2.1)&&(decide (p.2.1≤63)&&(G.zo p.2.2&&p.1.all fun l=>l.all fun s=>symB s many)))
def gramB (l:List PRD):Bool:=decide (1≤l.length)&&(decide (l.length≤60)&&l.all fun p=>prodB p l.length)
theorem syms_at {D:Nat→Prop} {w:World} {x:Option Addr} {cc n:Nat} {l:List SY} (h:SymsV D w (.slice x n cc) l) (j:Nat) (hj:j<l.length):∃g off s a c,x=some ⟨g,off,none⟩∧g<w.heap.size∧w.cell? ⟨g,off+3*j,none⟩=some (.int .i64 s.1)∧w.cell? ⟨g,off+3*j+1,none⟩=some (.slice a s.2.1.length c)∧w.cell? ⟨g,off+3*j+2,none⟩=some (.int .i64 s.2.2)∧Rs w a s.2.1.length c s.2.1∧Ty w a∧l.drop j=s::l.drop (j+1)∧s∈l:=by
 obtain⟨a',c',cs,e,hr,hs⟩:=h
 injection e with e1 e2 e3
 subst e1;subst e3
 obtain⟨s,a,c,hm,hd,h0,h1,h2,hrs,hty,-⟩:=SyC.at l cs j hs hj
 obtain⟨g,off,ha,-,q0⟩:=hr.cell h0
 have key:∀i u,cs[3*j+i]? =some u→w.cell? ⟨g,off+3*j+i,none⟩=some u:=fun i u hu=>by
  obtain⟨g',off',ha',-,q⟩:=hr.cell hu
  rw[ha]at ha'
  injection ha' with ha'
  injection ha' with e1 e2
  subst e1;subst e2
  rw[Nat.add_assoc];exact q
 exact⟨g,off,s,a,c,ha,zJ q0,q0,key 1 _ h1,key 2 _ h2,hrs,hty,hd,hm⟩
theorem SymsV.none (D:Nat→Prop) (w:World):SymsV D w (.slice Option.none 0 0) []:=⟨Option.none,0,[],rfl,⟨Nat.le_refl _,Nat.zero_le _,.inl rfl⟩,rfl⟩
theorem RowT.new {t:TypeId} {D:Nat→Prop} {w:World} {g:Nat} {cs:Array Value} {fr:Nat×Nat} (hg:w.heap[g]? =some (.cells cs t fr)) (hd:D g) (n:Nat) (hn:n≤maxLen):RowT t D w (some ⟨g,0,none⟩) n n cs.toList:=
 ⟨Nat.le_refl _,hn,.inr ⟨g,0,cs,fr,rfl,hd,hg,fun j u hu=>by rw[Nat.zero_add];simpa using hu⟩⟩
theorem AltV.two {D:Nat→Prop} {w X:World} (k:Kp D D w X) {v1 v2:Value} {l1 l2:List SY} (h1:SymsV D w v1 l1) (h2:SymsV D w v2 l2) {g:Nat} {fr:Nat×Nat} (hg:X.heap[g]? =some (.cells #[v1,v2] 44 fr)) (hd:D g):AltV D X (.slice (some ⟨g,0,none⟩) 2 2) [l1,l2]:=
 ⟨_,_,_,rfl,RowT.new hg hd 2 (by unfold maxLen;omega),v1,[v2],rfl,h1.kp k,v2,[],rfl,h2.kp k,rfl⟩
theorem AltV.one {D:Nat→Prop} {w X:World} (k:Kp D D w X) {v1:Value} {l1:List SY} (h1:SymsV D w v1 l1) {g:Nat} {fr:Nat×Nat} (hg:X.heap[g]? =some (.cells #[v1] 44 fr)) (hd:D g):AltV D X (.slice (some ⟨g,0,none⟩) 1 1) [l1]:=
 ⟨_,_,_,rfl,RowT.new hg hd 1 (by unfold maxLen;omega),v1,[],rfl,h1.kp k,rfl⟩
def AtC (ns:List (List Int)) (n:Nat) (d:Int) (f:Nat) (g:PT→Nat→Mk→Mk×List (List SY)):Prop:=
 ∀(D:Nat→Prop) (w:World) (B b m:Nat) (s:Mk) (pv:Value) (p:PT) (nn:Nat),B≤w.heap.size→(∀k,w.heap.size≤k→D k)→Mak D w B b m ns d s→PartB B (n+1) w pv p→smP (n+1) p→
  Calls Tryz.prog f #[.pointer (some ⟨b,0,none⟩),pv,.agg #[.int .i64 2,.slice none 0 0,.int .i64 (nn:Int)]] w (AlR D B b m ns d w (g p nn s))
theorem LV.symsN {D:Nat→Prop} {w X:World} {B:Nat} {v:Value} {l:List SY} (h:LV X B v l) (nx:Nx w (.slice none 0 0) v) (hD:∀k,w.heap.size≤k→D k):SymsV D X v l:=
 h.syms (fun g hg=>by
  rcases nx g hg with c|c
  ·cases c
  ·exact hD g c)
theorem jq {B n:Nat} {w:World} {pv:Value} {p:PT} (h:PartB B (n+1) w pv p):∃k S a1 n1 c1 a2 n2 c2 q,pv= .agg #[.int .i64 k,.string S,.slice a1 n1 c1,.slice a2 n2 c2,.int .i64 q]∧k=kdP p∧q=atP p:=by
 obtain⟨k,t,R,L,q,aR,cR,aL,cL,cs,rfl,rfl,-⟩:=h
 exact⟨_,_,_,_,_,_,_,_,_,rfl,rfl,rfl⟩
theorem fstar_l {ns:List (List Int)} {n:Nat} {d:Int} (HP:Z6 ns n d):AtC ns n d 162 (fun p nn s=>((xV (zQ ns n d) p s).1,[ji (xV (zQ ns n d) p s).2 (2,[],(nn:Int)),[]])):=by
 intro D w B b m s pv p nn hB hD h hp hs
 obtain⟨mv,hm⟩:=h
 have B2:∀o1 o2,Below w.heap.size w ((w.alloc o1).alloc o2):=fun o1 o2=>(Below.new1 o1).alloc (by simp) o2
 have CO:=zk (fun W (bW:Below w.heap.size w W)=>fonly_l HP pv p (by have:=bW.size;omega) (fun k hk=>hD k (by have:=bW.size;omega)) ⟨mv,hm.later bW⟩ (PartB.kept (fun g hg=>⟨hg,bW.block g (by omega)⟩) (KR.of bW) (n+1) _ p hp) hs)
 obtain⟨k,S,a1,n1,c1,a2,n2,c2,q,rfl,-,-⟩:=jq hp
 have HDD:=zk hD
 have hlt:=hm.lt
 have HLT:=zk hB
 clear hm hp hs hD
 dsimp only
 generalize xV (zQ ns n d) p s=r at*
 go_enter Tryz.func162,Tryz.ntmps162
 go_wp2_with fail
 have P0:((w.alloc (.cells #[.int .i64 k,.string S,.slice a1 n1 c1,.slice a2 n2 c2,.int .i64 q] 149)).alloc (.cells #[.int .i64 2,.slice none 0 0,.int .i64 (nn:Int)] 43)).heap[w.heap.size]? =some (.cells #[.int .i64 k,.string S,.slice a1 n1 c1,.slice a2 n2 c2,.int .i64 q] 149):=zK (heap_alloc_new _ _) _
 have P1:((w.alloc (.cells #[.int .i64 k,.string S,.slice a1 n1 c1,.slice a2 n2 c2,.int .i64 q] 149)).alloc (.cells #[.int .i64 2,.slice none 0 0,.int .i64 (nn:Int)] 43)).heap[w.heap.size+1]? =some (.cells #[.int .i64 2,.slice none 0 0,.int .i64 (nn:Int)] 43):=by have:=heap_alloc_new (w.alloc (.cells #[.int .i64 k,.string S,.slice a1 n1 c1,.slice a2 n2 c2,.int .i64 q] 149)) (.cells #[.int .i64 2,.slice none 0 0,.int .i64 (nn:Int)] 43);simpa using this
 have BW:Below w.heap.size w ((w.alloc (.cells #[.int .i64 k,.string S,.slice a1 n1 c1,.slice a2 n2 c2,.int .i64 q] 149)).alloc (.cells #[.int .i64 2,.slice none 0 0,.int .i64 (nn:Int)] 43)):=B2 _ _
 have sW:((w.alloc (.cells #[.int .i64 k,.string S,.slice a1 n1 c1,.slice a2 n2 c2,.int .i64 q] 149)).alloc (.cells #[.int .i64 2,.slice none 0 0,.int .i64 (nn:Int)] 43)).heap.size=w.heap.size+2:=by simp
 generalize ((w.alloc (.cells #[.int .i64 k,.string S,.slice a1 n1 c1,.slice a2 n2 c2,.int .i64 q] 149)).alloc (.cells #[.int .i64 2,.slice none 0 0,.int .i64 (nn:Int)] 43))=WW at*
 refine wp_region_held_drew (S:=(fun w'=>w'.heap[w.heap.size]? =some (.cells #[.int .i64 k,.string S,.slice a1 n1 c1,.slice a2 n2 c2,.int .i64 q] 149)∧w'.heap[w.heap.size+1]? =some (.cells #[.int .i64 2,.slice none 0 0,.int .i64 (nn:Int)] 43))) (by kernel_rfl) (⟨P0,P1⟩) (fun hHeld=> ?_)
 refine tkh 0 ?_ rfl (by kernel_rfl) (fun _ _ _ h=>h) ?_ (by assumption) ?_
 rotate_left
 ·intro w hSw;obtain⟨⟨y0,y1,y2,y3,y4⟩,-⟩:=yW hSw.1;obtain⟨⟨z0,z1,z2⟩,-⟩:=jJ hSw.2;(try clear hSw);go_simp;(try with_reducible rfl)
 try simp only[pls]
 refine tkh 1 ?_ rfl (by kernel_rfl) (fun _ _ _ h=>h) ?_ (by assumption) ?_
 rotate_left
 ·intro w hSw;obtain⟨⟨y0,y1,y2,y3,y4⟩,-⟩:=yW hSw.1;obtain⟨⟨z0,z1,z2⟩,-⟩:=jJ hSw.2;(try clear hSw);go_simp;(try with_reducible rfl)
 try simp only[pls]
 refine tkh 3 ?_ rfl (by kernel_rfl) (fun _ _ _ h=>h) ?_ (by assumption) ?_
 rotate_left
 ·intro w hSw;obtain⟨⟨y0,y1,y2,y3,y4⟩,-⟩:=yW hSw.1;obtain⟨⟨z0,z1,z2⟩,-⟩:=jJ hSw.2;(try clear hSw);go_simp;(try with_reducible rfl)
 try simp only[pls]
 refine wpAnyH_ready (rs:=[2]) (by kernel_rfl) (by simp) ?_
 refine AllReadyH.cons rfl (fun K hK=> ?_) AllReadyH.nil
 go_simp
 refine(zq CO _ (zY BW zX)).mono ?_
 clear CO
 rintro e w1 ⟨v1,rfl,lv1,⟨mv1,mk1⟩,fl1,nx1⟩
 have P0:w1.heap[w.heap.size]? =some (.cells #[.int .i64 k,.string S,.slice a1 n1 c1,.slice a2 n2 c2,.int .i64 q] 149):=fl1.block _ _ P0 (by omega) (by simp[Value.ownBlock]) (fun cs fr e=>by injection e with _ e;exact absurd e (by decide))
 have P1:w1.heap[w.heap.size+1]? =some (.cells #[.int .i64 2,.slice none 0 0,.int .i64 (nn:Int)] 43):=fl1.block _ _ P1 (by omega) (by simp[Value.ownBlock]) (fun cs fr e=>by injection e with _ e;exact absurd e (by decide))
 have FW:=zk ((Fl.of (x:=none) (b:=b) (B:=B) (zY BW (zX (k:=1)))).then fl1 (fun g e=>by cases e))
 have s1:=(zq FW).size
 have sD:WW.drew.heap.size=WW.heap.size:=rfl
 have CP:=zk (fun W (bW:Below w1.heap.size w1 W)=>fput_l (lv1.later bW) (by have:=bW.size;omega) 2 (nn:Int) [] none 0 (Rs.nil W) (Ty.nil W))
 simp only[List.length_nil]at CP
 have I1:=zk (show InvL D B b m ns d (.slice none 0 0) w r.1 v1 r.2 w1 from⟨lv1,⟨mv1,mk1⟩,zq FW,fun g hg=>by
   rcases nx1 g hg with c|c
   ·exact .inl c
   ·have c:WW.heap.size≤g:=c
    exact .inr (by omega)⟩)
 have NV:∀g,v1.ownBlock=some g→w.heap.size+2≤g:=fun g hg=>by
   rcases nx1 g hg with c|c
   ·cases c
   ·have c:WW.heap.size≤g:=c
    omega
 obtain⟨xa,xc,rfl⟩:=lv1.form
 have HMK1:=zk mk1
 clear lv1 mk1 nx1 fl1
 go_wp2_with fail
 refine hK.out _ _ (⟨P0,P1⟩) (fun hHeld=> ?_)
 clear hK K
 try simp only[pls]
 refine wpAnyH_ready (rs:=[4]) (by kernel_rfl) (by simp) ?_
 refine AllReadyH.cons rfl (fun K hK=> ?_) AllReadyH.nil
 go_simp
 refine(zq CP _ (Below.refl _ _)).mono ?_
 clear CP
 rintro e w2 ⟨v2,rfl,lv2,gr2,nx2,kr2⟩
 have P0:w2.heap[w.heap.size]? =some (.cells #[.int .i64 k,.string S,.slice a1 n1 c1,.slice a2 n2 c2,.int .i64 q] 149):=(gr2.block _ (Array.getElem?_eq_some_iff.1 P0).1 (fun e=>by have:=NV _ e.symm;omega)).trans P0
 have P1:w2.heap[w.heap.size+1]? =some (.cells #[.int .i64 2,.slice none 0 0,.int .i64 (nn:Int)] 43):=(gr2.block _ (Array.getElem?_eq_some_iff.1 P1).1 (fun e=>by have:=NV _ e.symm;omega)).trans P1
 have I2:=zk ((zq I1).on (Yi (zq I1).1 (zq HMK1).blk (zq HMK1) (Fl.refl _ _ _ _) lv2 gr2 nx2))
 obtain⟨ya,yc,rfl⟩:=lv2.form
 clear lv2 gr2 nx2 kr2 I1 HMK1
 have s2:=(zq I2).2.2.1.size
 go_wp2_with fail
 refine hK.out _ _ (⟨P0,P1⟩) (fun hHeld=> ?_)
 clear hK K
 try simp only[pls]
 refine wpAnyH_ready (rs:=[5]) (by kernel_rfl) (by simp) ?_
 refine AllReadyH.cons rfl (fun K hK=> ?_) AllReadyH.nil
 go_simp
 refine hK.out _ _ (⟨zK P0 _,zK P1 _⟩) (fun hHeld=> ?_)
 clear hK K
 try simp only[pls]
 refine tkh 6 ?_ rfl (by kernel_rfl) (fun _ _ _ h=>h) ?_ (by assumption) ?_
 rotate_left
 ·intro w hSw;skip;(try clear hSw);go_simp;(try with_reducible rfl)
 try simp only[pls]
 refine wpAnyH_done (by kernel_rfl) ?_ _
 go_wp2_with fail
 go_ret
 obtain⟨lv,⟨mv3,mk3⟩,fl3,nx3⟩:=(zq I2).more (Below.new1 (.cells #[.slice ya (ji r.2 (2,[],(nn:Int))).length yc,.slice none 0 0] 44))
 exact⟨_,rfl,AltV.two (Kp.weak _ (fun _ h=>h)) (lv.symsN nx3 (zq HDD)) (SymsV.none _ _) (heap_alloc_new _ _) (zq HDD _ s2),⟨mv3,mk3.weak (fun g _ hd=>hd.1)⟩,fl3,by simp⟩
theorem fopt_l {ns:List (List Int)} {n:Nat} {d:Int} (HP:Z6 ns n d):AtC ns n d 164 (fun p nn s=>((xV (zQ ns n d) p s).1,[(xV (zQ ns n d) p s).2,[]])):=by
 intro D w B b m s pv p nn hB hD h hp hs
 obtain⟨mv,hm⟩:=h
 have B2:∀o1 o2,Below w.heap.size w ((w.alloc o1).alloc o2):=fun o1 o2=>(Below.new1 o1).alloc (by simp) o2
 have CO:=zk (fun W (bW:Below w.heap.size w W)=>fonly_l HP pv p (by have:=bW.size;omega) (fun k hk=>hD k (by have:=bW.size;omega)) ⟨mv,hm.later bW⟩ (PartB.kept (fun g hg=>⟨hg,bW.block g (by omega)⟩) (KR.of bW) (n+1) _ p hp) hs)
 obtain⟨k,S,a1,n1,c1,a2,n2,c2,q,rfl,-,-⟩:=jq hp
 have HDD:=zk hD
 have hlt:=hm.lt
 have HLT:=zk hB
 clear hm hp hs hD
 dsimp only
 generalize xV (zQ ns n d) p s=r at*
 go_enter Tryz.func164,Tryz.ntmps164
 go_wp2_with fail
 refine(zq CO _ (B2 _ _)).mono ?_
 clear CO
 rintro e w1 ⟨v1,rfl,lv1,⟨mv1,mk1⟩,fl1,nx1⟩
 have FW:=zk ((Fl.of (x:=none) (b:=b) (B:=B) (B2 (.cells #[.int .i64 k,.string S,.slice a1 n1 c1,.slice a2 n2 c2,.int .i64 q] 149) (.cells #[.int .i64 2,.slice none 0 0,.int .i64 (nn:Int)] 43))).then fl1 (fun g e=>by cases e))
 have s1:=(zq FW).size
 have I1:=zk (show InvL D B b m ns d (.slice none 0 0) w r.1 v1 r.2 w1 from⟨lv1,⟨mv1,mk1⟩,zq FW,fun g hg=>by
  rcases nx1 g hg with c|c
  ·exact .inl c
  ·exact .inr (Nat.le_trans (by simp;omega) c)⟩)
 obtain⟨ya,yc,rfl⟩:=lv1.form
 clear lv1 mk1 nx1 fl1
 go_wp2_with fail
 go_ret
 obtain⟨lv,⟨mv3,mk3⟩,fl3,nx3⟩:=(zq I1).more (Below.new1 (.cells #[.slice ya r.2.length yc,.slice none 0 0] 44))
 exact⟨_,rfl,AltV.two (Kp.weak _ (fun _ h=>h)) (lv.symsN nx3 (zq HDD)) (SymsV.none _ _) (heap_alloc_new _ _) (zq HDD _ s1),⟨mv3,mk3.weak (fun g _ hd=>hd.1)⟩,fl3,by simp⟩
theorem own_weak {w:World} {B B':Nat} {t:TypeId} {sz:Nat} {v:Value} {n:Nat} {cs:List Value} (h:w.ownsRow B t sz v n cs) (hB:B'≤B):w.ownsRow B' t sz v n cs:=by
 refine⟨h.1,?_⟩
 rcases h.2 with e|⟨g,cap,cur,e,hb,rest⟩
 ·exact .inl e
 ·exact .inr ⟨g,cap,cur,e,Nat.le_trans hB hb,rest⟩
theorem LV.lower {w:World} {B B':Nat} {v:Value} {l:List SY} (h:LV w B v l) (hB:B'≤B):LV w B' v l:=by
 obtain⟨h1,cs,own,hs⟩:=h
 exact⟨h1,cs,own_weak own hB,hs⟩
theorem fplus_l {ns:List (List Int)} {n:Nat} {d:Int} (HP:Z6 ns n d) (HS:∀p s,smP (n+1) p→smS (xV (zQ ns n d) p s).2):AtC ns n d 163 (fun p nn s=>((xV (zQ ns n d) p s).1,[ji (xV (zQ ns n d) p s).2 (2,[],(nn:Int)),(xV (zQ ns n d) p s).2])):=by
 intro D w B b m s pv p nn hB hD h hp hs
 obtain⟨mv,hm⟩:=h
 have B2:∀o1 o2,Below w.heap.size w ((w.alloc o1).alloc o2):=fun o1 o2=>(Below.new1 o1).alloc (by simp) o2
 have CO:=zk (fun W (bW:Below w.heap.size w W)=>fonly_l HP pv p (by have:=bW.size;omega) (fun k hk=>hD k (by have:=bW.size;omega)) ⟨mv,hm.later bW⟩ (PartB.kept (fun g hg=>⟨hg,bW.block g (by omega)⟩) (KR.of bW) (n+1) _ p hp) hs)
 obtain⟨k,S,a1,n1,c1,a2,n2,c2,q,rfl,-,-⟩:=jq hp
 have HSM:=zk (HS p s hs)
 have HDD:=zk hD
 have hlt:=hm.lt
 have HLT:=zk hB
 clear hm hp hs hD HS
 dsimp only
 generalize xV (zQ ns n d) p s=r at*
 go_enter Tryz.func163,Tryz.ntmps163
 go_wp2_with fail
 have P0:((w.alloc (.cells #[.int .i64 k,.string S,.slice a1 n1 c1,.slice a2 n2 c2,.int .i64 q] 149)).alloc (.cells #[.int .i64 2,.slice none 0 0,.int .i64 (nn:Int)] 43)).heap[w.heap.size]? =some (.cells #[.int .i64 k,.string S,.slice a1 n1 c1,.slice a2 n2 c2,.int .i64 q] 149):=zK (heap_alloc_new _ _) _
 have P1:((w.alloc (.cells #[.int .i64 k,.string S,.slice a1 n1 c1,.slice a2 n2 c2,.int .i64 q] 149)).alloc (.cells #[.int .i64 2,.slice none 0 0,.int .i64 (nn:Int)] 43)).heap[w.heap.size+1]? =some (.cells #[.int .i64 2,.slice none 0 0,.int .i64 (nn:Int)] 43):=by have:=heap_alloc_new (w.alloc (.cells #[.int .i64 k,.string S,.slice a1 n1 c1,.slice a2 n2 c2,.int .i64 q] 149)) (.cells #[.int .i64 2,.slice none 0 0,.int .i64 (nn:Int)] 43);simpa using this
 have BW:Below w.heap.size w ((w.alloc (.cells #[.int .i64 k,.string S,.slice a1 n1 c1,.slice a2 n2 c2,.int .i64 q] 149)).alloc (.cells #[.int .i64 2,.slice none 0 0,.int .i64 (nn:Int)] 43)):=B2 _ _
 have sW:((w.alloc (.cells #[.int .i64 k,.string S,.slice a1 n1 c1,.slice a2 n2 c2,.int .i64 q] 149)).alloc (.cells #[.int .i64 2,.slice none 0 0,.int .i64 (nn:Int)] 43)).heap.size=w.heap.size+2:=by simp
 generalize ((w.alloc (.cells #[.int .i64 k,.string S,.slice a1 n1 c1,.slice a2 n2 c2,.int .i64 q] 149)).alloc (.cells #[.int .i64 2,.slice none 0 0,.int .i64 (nn:Int)] 43))=WW at*
 refine(zq CO _ BW).mono ?_
 clear CO
 rintro e w1 ⟨v1,rfl,lv1,⟨mv1,mk1⟩,fl1,nx1⟩
 have P1:w1.heap[w.heap.size+1]? =some (.cells #[.int .i64 2,.slice none 0 0,.int .i64 (nn:Int)] 43):=fl1.block _ _ P1 (by omega) (by simp[Value.ownBlock]) (fun cs fr e=>by injection e with _ e;exact absurd e (by decide))
 have FW:=zk ((Fl.of (x:=none) (b:=b) (B:=B) BW).then fl1 (fun g e=>by cases e))
 have s1:=(zq FW).size
 have hw1:w.heap.size+1<w1.heap.size:=(Array.getElem?_eq_some_iff.1 P1).1
 have HP1:=zk P1
 have CC:=zk (fun W (bW:Below w1.heap.size w1 W)=>copied_l v1 r.2 W (lv1.later bW) (zq HSM))
 have I1:=zk (show InvL D B b m ns d (.slice none 0 0) w r.1 v1 r.2 w1 from⟨lv1,⟨mv1,mk1⟩,zq FW,fun g hg=>by
  rcases nx1 g hg with c|c
  ·exact .inl c
  ·exact .inr (by omega)⟩)
 obtain⟨xa,xc,rfl⟩:=lv1.form
 clear lv1 mk1 nx1 fl1
 go_wp2_with fail
 refine wp_region_held_drew (S:=(fun w'=>w'.heap[w.heap.size+1]? =some (.cells #[.int .i64 2,.slice none 0 0,.int .i64 (nn:Int)] 43))) (by kernel_rfl) (P1) (fun hHeld=> ?_)
 refine tkh 0 ?_ rfl (by kernel_rfl) (fun _ _ _ h=>h) ?_ (by assumption) ?_
 rotate_left
 ·intro w hSw;obtain⟨⟨z0,z1,z2⟩,-⟩:=jJ hSw;(try clear hSw);go_simp;(try with_reducible rfl)
 try simp only[pls]
 refine tkh 2 ?_ rfl (by kernel_rfl) (fun _ _ _ h=>h) ?_ (by assumption) ?_
 rotate_left
 ·intro w hSw;obtain⟨⟨z0,z1,z2⟩,-⟩:=jJ hSw;(try clear hSw);go_simp;(try with_reducible rfl)
 try simp only[pls]
 refine tkh 4 ?_ rfl (by kernel_rfl) (fun _ _ _ h=>h) ?_ (by assumption) ?_
 rotate_left
 ·intro w hSw;obtain⟨⟨z0,z1,z2⟩,-⟩:=jJ hSw;(try clear hSw);go_simp;(try with_reducible rfl)
 try simp only[pls]
 refine wpAnyH_ready (rs:=[1]) (by kernel_rfl) (by simp) ?_
 refine AllReadyH.cons rfl (fun K hK=> ?_) AllReadyH.nil
 go_simp
 refine(zq CC _ zX).mono ?_
 clear CC
 rintro e w2 ⟨v2,rfl,lv2,b2⟩
 have b2:Below w1.heap.size w1 w2:=zY (w1:=w1.drew) (zX (k:=1)) b2
 have sD:w1.drew.heap.size=w1.heap.size:=rfl
 have s2:=b2.size
 have P1:w2.heap[w.heap.size+1]? =some (.cells #[.int .i64 2,.slice none 0 0,.int .i64 (nn:Int)] 43):=(b2.block _ hw1).trans P1
 have CP:=zk (fput_l (lv2.lower (show B≤w1.drew.heap.size from Nat.le_trans (zq HLT) s1)) (Nat.le_trans (zq HLT) (Nat.le_trans s1 s2)) 2 (nn:Int) [] none 0 (Rs.nil w2) (Ty.nil w2))
 simp only[List.length_nil]at CP
 have HLV2:=zk lv2
 have HB2:=zk b2
 obtain⟨ya,yc,rfl⟩:=lv2.form
 clear lv2 b2
 go_wp2_with fail
 refine hK.out _ _ (P1) (fun hHeld=> ?_)
 clear hK K
 try simp only[pls]
 refine wpAnyH_ready (rs:=[3]) (by kernel_rfl) (by simp) ?_
 refine AllReadyH.cons rfl (fun K hK=> ?_) AllReadyH.nil
 go_simp
 refine(zq CP).mono ?_
 clear CP
 rintro e w3 ⟨v3,rfl,lv3,gr3,nx3,kr3⟩
 have b3:Below w1.heap.size w1 w3:=(zq HB2).grown gr3 s2 (fun k hk=>((zq HLV2).lt k hk).1)
 have P1:w3.heap[w.heap.size+1]? =some (.cells #[.int .i64 2,.slice none 0 0,.int .i64 (nn:Int)] 43):=(b3.block _ hw1).trans (show w1.heap[w.heap.size+1]? =some (.cells #[.int .i64 2,.slice none 0 0,.int .i64 (nn:Int)] 43) from zq HP1)
 have I3:=zk ((zq I1).more b3)
 have V3:SymsV D w3 v3 (ji r.2 (2,[],(nn:Int))):=lv3.syms (fun g hg=>by
   rcases nx3 g hg with c|c
   ·exact zq HDD g (Nat.le_trans s1 ((zq HLV2).lt g c).1)
   ·exact zq HDD g (Nat.le_trans s1 (Nat.le_trans s2 c)))
 have HV3:=zk V3
 have s3:=gr3.size
 obtain⟨za,zc,rfl⟩:=lv3.form
 clear lv3 gr3 nx3 kr3 b3 V3 I1 HLV2 HB2
 go_wp2_with fail
 refine hK.out _ _ (P1) (fun hHeld=> ?_)
 clear hK K
 try simp only[pls]
 refine wpAnyH_ready (rs:=[5]) (by kernel_rfl) (by simp) ?_
 refine AllReadyH.cons rfl (fun K hK=> ?_) AllReadyH.nil
 go_simp
 refine hK.out _ _ (zK P1 _) (fun hHeld=> ?_)
 clear hK K
 try simp only[pls]
 refine tkh 6 ?_ rfl (by kernel_rfl) (fun _ _ _ h=>h) ?_ (by assumption) ?_
 rotate_left
 ·intro w hSw;skip;(try clear hSw);go_simp;(try with_reducible rfl)
 try simp only[pls]
 refine wpAnyH_done (by kernel_rfl) ?_ _
 go_wp2_with fail
 go_ret
 have BN:=Below.new1 (w:=w3) (.cells #[.slice za (ji r.2 (2,[],(nn:Int))).length zc,.slice xa r.2.length xc] 44)
 obtain⟨lv,⟨mv3,mk3⟩,fl3,nx3⟩:=(zq I3).more BN
 exact⟨_,rfl,AltV.two (Kp.weak _ (fun _ h=>h)) ((zq HV3).kp (Kp.of BN)) (lv.symsN nx3 (zq HDD)) (heap_alloc_new _ _) (zq HDD _ (Nat.le_trans s1 (Nat.le_trans s2 s3))),⟨mv3,mk3.weak (fun g _ hd=>hd.1)⟩,fl3,by simp⟩
end Go.Proofs.YtcblkmlcbedomaaGreatDoor.F
namespace Go.Proofs.YtcblkmlcbedomaaGreatDoor.F
open Go.Proofs.YtcblkmlcbedomaaGreatDoor.T Go.Proofs.YtcblkmlcbedomaaGreatDoor.R
theorem stop_len (s:Mk) (q y:Int):(s.stop q y).made.length=s.made.length:=by unfold Mk.stop;split<;>rfl
theorem fin_len (s:Mk) (n:Nat) (q:Int) (A:List (List SY)):(s.fin n q A).made.length=s.made.length:=by
 unfold Mk.fin
 split
 ·simp[setA_len]
 ·simp[setA_len,stop_len]
def Mono (f:PF):Prop:=∀m l p,m.made.length≤(f m l p).1.made.length∧(m.made.length≤60→(f m l p).1.made.length≤60)
theorem call_mono (ns:List (List Int)):Mono (callS ns):=by
 intro m l p
 unfold callS
 split
 ·exact⟨Nat.le_refl _,id⟩
 ·simp[stop_len]
theorem seq_mono {f:PF} (hf:Mono f):∀(ps:List PT) (m:Mk) (l:List SY),m.made.length≤(Za f ps m l).1.made.length∧(m.made.length≤60→(Za f ps m l).1.made.length≤60):=by
 intro ps
 induction ps with
 |nil=>intro m l;exact⟨Nat.le_refl _,id⟩
 |cons p ps ih=>
  intro m l
  unfold Za
  split
  ·exact⟨Nat.le_refl _,id⟩
  ·have h1:=hf m l p
   have h2:=ih (f m l p).1 (f m l p).2
   exact⟨Nat.le_trans h1.1 h2.1,fun h=>h2.2 (h1.2 h)⟩
theorem each_mono {f:PF} (hf:Mono f):∀(ps:List PT) (m:Mk) (a:List (List SY)),m.made.length≤(jx f ps m a).1.made.length∧(m.made.length≤60→(jx f ps m a).1.made.length≤60):=by
 intro ps
 induction ps with
 |nil=>intro m a;exact⟨Nat.le_refl _,id⟩
 |cons p ps ih=>
  intro m a
  unfold jx
  split
  ·exact⟨Nat.le_refl _,id⟩
  ·have h1:=hf m [] p
   have h2:=ih (f m [] p).1 (if a.length≤8 then a++[(f m [] p).2]else a)
   exact⟨Nat.le_trans h1.1 h2.1,fun h=>h2.2 (h1.2 h)⟩
theorem only_mono {f:PF} (hf:Mono f) (p:PT) (m:Mk):m.made.length≤(xV f p m).1.made.length∧(m.made.length≤60→(xV f p m).1.made.length≤60):=by
 unfold xV
 split
 ·exact hf m [] _
 ·simp[stop_len]
theorem alts_mono {f:PF} (hf:Mono f) (p:PT) (n:Nat) (m:Mk):m.made.length≤(kW f p n m).1.made.length∧(m.made.length≤60→(kW f p n m).1.made.length≤60):=by
 unfold kW
 split
 ·exact each_mono hf _ _ _
 ·split
  ·exact only_mono hf p m
  ·split
   ·exact only_mono hf p m
   ·exact only_mono hf p m
theorem anew_mono {f:PF} (hf:Mono f):Mono (kw f):=by
 intro m l p
 unfold kw
 split
 ·simp[stop_len]
 ·rename_i h60
  have h:=alts_mono hf p m.made.length ⟨m.made++[([],0,[])],m.left,m.pl,m.why⟩
  simp only[List.length_append,List.length_cons,List.length_nil,Nat.zero_add]at h
  simp only[fin_len]
  exact⟨by omega,fun h6=>h.2 (by omega)⟩
theorem way_mono (ns:List (List Int)) {f:PF} (hf:Mono f):Mono (j4 ns f):=by
 intro m l p
 unfold j4
 split
 ·exact call_mono ns m l p
 ·split
  ·exact⟨Nat.le_refl _,id⟩
  ·split
   ·exact⟨Nat.le_refl _,id⟩
   ·split
    ·exact⟨Nat.le_refl _,id⟩
    ·split
     ·exact seq_mono hf _ _ _
     ·exact anew_mono hf m l p
theorem part_mono (ns:List (List Int)):∀(n:Nat) (d:Int),Mono (zQ ns n d):=by
 intro n
 induction n with
 |zero=>intro d m l p;exact⟨Nat.le_refl _,id⟩
 |succ n ih=>
  intro d m l p
  unfold zQ
  split
  ·simp[stop_len]
  ·exact way_mono ns (ih (d+1)) ⟨m.made,m.left-1,m.pl,m.why⟩ l p
def Sm (n:Nat) (f:PF):Prop:=∀m l p,smP n p→smS l→smS (f m l p).2
theorem put_sm {l:List SY} (h:smS l) {s:SY} (hs:s.2.1.length≤1000000):smS (ji l s):=by
 unfold ji
 split
 ·exact h
 ·intro x hx
  rcases List.mem_append.1 hx with c|c
  ·exact h x c
  ·simp at c;subst c;exact hs
theorem text_sm:∀(t:List Int) (l:List SY),smS l→smS (vX t l):=by
 intro t
 induction t with
 |nil=>intro l h;exact h
 |cons c t ih=>
  intro l h
  unfold vX
  split
  ·exact h
  ·exact ih _ (put_sm h (by simp))
theorem seq_sm {n:Nat} {f:PF} (hf:Sm n f):∀(ps:List PT) (m:Mk) (l:List SY),(∀x∈ps,smP n x)→smS l→smS (Za f ps m l).2:=by
 intro ps
 induction ps with
 |nil=>intro m l _ h;exact h
 |cons p ps ih=>
  intro m l hp h
  unfold Za
  split
  ·exact h
  ·exact ih _ _ (fun x hx=>hp x (List.mem_cons_of_mem _ hx)) (hf m l p (hp p (List.mem_cons_self ..)) h)
theorem nil_sm:smS []:=fun s h=>by cases h
theorem way_sm (ns:List (List Int)) {n:Nat} {f:PF} (hf:Sm n f):Sm (n+1) (j4 ns f):=by
 intro m l p hp hl
 obtain⟨h1,h2,h3,h4⟩:=hp
 unfold j4
 split
 ·unfold callS
  split
  ·exact put_sm hl (by simp)
  ·exact put_sm hl (by simp)
 ·split
  ·exact text_sm _ _ hl
  ·split
   ·exact put_sm hl h2
   ·split
    ·exact put_sm hl h2
    ·split
     ·exact seq_sm hf _ _ _ h4 hl
     ·unfold kw
      split
      ·exact hl
      ·exact put_sm hl (by simp)
theorem part_sm (ns:List (List Int)):∀(n:Nat) (d:Int),Sm n (zQ ns n d):=by
 intro n
 induction n with
 |zero=>intro d m l p _ h;exact h
 |succ n ih=>
  intro d m l p hp h
  unfold zQ
  split
  ·exact h
  ·exact way_sm ns (ih (d+1)) _ l p hp h
theorem only_sm (ns:List (List Int)) (n:Nat) (d:Int) (p:PT) (m:Mk) (h:smP (n+1) p):smS (xV (zQ ns n d) p m).2:=by
 unfold xV
 split
 ·rename_i x e
  exact part_sm ns n d m [] x (h.2.2.2 x (by rw[e];simp)) nil_sm
 ·exact nil_sm
end Go.Proofs.YtcblkmlcbedomaaGreatDoor.F
namespace Go.Proofs.YtcblkmlcbedomaaGreatDoor.F
open Go.RowKit Go.Proofs.YtcblkmlcbedomaaGreatDoor.T Go.Proofs.YtcblkmlcbedomaaGreatDoor.R
theorem prod_info:(Tryz.prog.info? 41).map (fun i=>(i.zero,i.size,i.bytes))=some (some (.agg #[.slice none 0 0,.int .i64 0,.slice none 0 0]),3,56):=by kernel_rfl
theorem new_prod (w:World) (n:Nat) (x0 x1 x2:Value) (hn:n=w.heap.size):∀(j:Nat) (u:Value),[x0,x1,x2][j]? =some u→(w.alloc (.cells #[x0,x1,x2] 41)).cell? ((⟨n,0,none⟩:Addr).add j)=some u:=by
 subst hn
 exact World.news_of_block (cs:= #[x0,x1,x2]) (t:=41) (fr:=(0,0)) (heap_alloc_new w _)
theorem AltV.none (D:Nat→Prop) (w:World):AltV D w (.slice none 0 0) []:=⟨_,0,[],rfl,⟨Nat.le_refl _,Nat.zero_le _,.inl rfl⟩,rfl⟩
theorem NotV.none (w:World):NotV w (.slice none 0 0) []:=⟨_,0,rfl,Rs.nil w,Ty.nil w⟩
theorem MakV.grow {D:Nat→Prop} {w W X:World} {B b m:Nat} {ns:List (List Int)} {d:Int} {v:Value} {s:Mk} (h:MakV D w B b m ns d v s) (k:Below w.heap.size w W) (h60:s.made.length<60) {cs:List Value} (hp:PrC D w s.made cs) {p:PRD} {c0 c2:Value} (ha:AltV D W c0 p.1) (hn:NotV W c2 p.2.2) {gg cap:Nat}
  (own:X.ownsRow B 41 3 (.slice (some ⟨gg,0,none⟩) (s.made.length+1) cap) (s.made.length+1) (cs++[c0,.int .i64 p.2.1,c2])) (hg:W.grownBy X v.ownBlock) (hgg:v.ownBlock=some gg∨gg=W.heap.size):
  MakV D (X.setCell ⟨b,0,none⟩ (.slice (some ⟨gg,0,none⟩) (s.made.length+1) cap)) B b m ns d (.slice (some ⟨gg,0,none⟩) (s.made.length+1) cap) ⟨s.made++[p],s.left,s.pl,s.why⟩∧Fl B b none w (X.setCell ⟨b,0,none⟩ (.slice (some ⟨gg,0,none⟩) (s.made.length+1) cap)):=by
 have hW:=h.later k
 have f1:Fl B b none W X:=Fl.grownP hg (fun k hk=>hW.made.block k hk)
 have f2:Fl B b none w X:=(Fl.of k).then f1 (fun g e=>by cases e)
 have hbX:X.heap[b]? =some (.cells (qw v m b d s) 111):=by
  rw[hg.block b hW.lt (fun e=>hW.made_ne b e.symm rfl)];exact hW.cells
 have kX:KR W X:=f1.kr hW.cells (Zv _)
 have hc:=heap_setCell_same X b 0 _ _ (.slice (some ⟨gg,0,none⟩) (s.made.length+1) cap) hbX
 have f3:Fl B b none w (X.setCell ⟨b,0,none⟩ (.slice (some ⟨gg,0,none⟩) (s.made.length+1) cap)):=f2.then (Fl.set (x:=none) X h.hB 0 _) (fun g e=>by cases e)
 have kp:Kp D D w (X.setCell ⟨b,0,none⟩ (.slice (some ⟨gg,0,none⟩) (s.made.length+1) cap)):=f3.kp h.cells (Zv w) (no_d w)
 have kpW:Kp D D W (X.setCell ⟨b,0,none⟩ (.slice (some ⟨gg,0,none⟩) (s.made.length+1) cap)):=(f1.then (Fl.set (x:=none) X h.hB 0 _) (fun g e=>by cases e)).kp hW.cells (Zv _) (no_d _)
 have hgb:gg≠b:=by
  intro e
  rcases hgg with c|c
  ·exact hW.made_ne gg c e
  ·have:=hW.lt;omega
 refine⟨⟨h.hB,h.hm,h.d0,h.l0,?_,⟨by simp;omega,cs++[c0,.int .i64 p.2.1,c2],?_,?_⟩,h.names.keep (fun o ho hno=> ?_)⟩,f3⟩
 ·rw[hc];simp[qw]
 ·rw[List.length_append]
  refine YZ own (fun g o hg ho=> ?_)
  simp only[Value.ownBlock,Option.some.injEq]at hg
  subst hg
  exact zw ho hgb _
 ·exact PrC.snoc (ha.kp kpW) (hn.kr kpW.1) _ _ (PrC.kp kp _ _ hp)
 ·refine f3.block m o ho (fun c=> ?_) (by simp) (fun cs' fr=>hno _ _ _)
  subst c;rw[h.cells]at ho;injection ho with ho;exact hno _ _ _ ho.symm
theorem anew_full {f:PF} {m:Mk} {l:List SY} {p:PT} (h:m.made.length=60):kw f m l p=(m.stop (atP p) 7,l):=by unfold kw;rw[if_pos h]
theorem anew_on {f:PF} {m:Mk} {l:List SY} {p:PT} (h:m.made.length≠60):kw f m l p=(((kW f p m.made.length ⟨m.made++[([],0,[])],m.left,m.pl,m.why⟩).1).fin m.made.length (atP p) (kW f p m.made.length ⟨m.made++[([],0,[])],m.left,m.pl,m.why⟩).2,ji l (2,[],(m.made.length:Int))):=by unfold kw;rw[if_neg h]
theorem LV.dv {D:Nat→Prop} {w:World} {B:Nat} {v:Value} {l:List SY} (h:LV w B v l) (hD:∀k,w.heap.size≤k→D k):∀k,w.heap.size≤k→D k∧some k≠v.ownBlock:=fun k hk=>⟨hD k hk,fun e=>by
 have:=(h.lt k e.symm).2;omega⟩
theorem qW {f:FuncId} {fn:Func} {c:Code} (hf:Tryz.prog.funcs[f]? =some fn) (hname:(fn.name== "runtime.NumGoroutine")=false) (hb:fn.body=some c) (args:Array Value) (w:World):(callFunc f args).run Tryz.prog w= .ok (.enter f args) w:=by
 have h1:fn.name≠ "runtime.NumGoroutine" :=by simpa using hname
 simp[callFunc,hf,h1,hb]
theorem fanew_l {ns:List (List Int)} {n:Nat} {d:Int} (F:Nat) (HE:∀args W,(callFunc F args).run Tryz.prog W= .ok (.enter F args) W) {AG:PT→Nat→Mk→Mk×List (List SY)} (HA:AtC ns n d F AG) {D:Nat→Prop} {w:World} {B b m:Nat} {s:Mk} {v:Value} {l:List SY} (pv:Value) (p:PT) (hB:B≤w.heap.size) (hD:∀k,w.heap.size≤k→D k) (h:Mak (fun k=>D k∧some k≠v.ownBlock) w B b m ns d s) (hL:LV w B v l) (hp:PartB B (n+1) w pv p) (hs:smP (n+1) p) (hG:∀nn s,AG p nn s=kW (zQ ns n d) p nn s):
  Calls Tryz.prog 160 #[.pointer (some ⟨b,0,none⟩),v,pv,.func (.func F) #[.pointer (some ⟨b,0,none⟩)] #[]] w (LfR D B b m ns d v w (kw (zQ ns n d) s l p)):=by
 obtain⟨mv,hm⟩:=h
 have B1:∀o,Below w.heap.size w (w.alloc o):=fun o=>Below.new1 o
 have h60:=hm.made.1
 obtain⟨ma,mc,rfl⟩:=hm.made.form
 have hlt:=hm.lt
 have MB:=zk hm.blk
 have HM:=zk hm
 have HL:=zk hL
 have HDV:=zk (hL.dv hD)
 have HP:=zk hp
 have HSP:=zk hs
 have HBB:=zk hB
 have CC0:∀o,(w.alloc o).cell? ⟨b,0,none⟩=some (.slice ma s.made.length mc):=fun o=>(yV (hm.later (B1 o)).cells).1
 have CS:=zk (fun W (bW:Below w.heap.size w W) q=>Yx (hm.later bW) q 7)
 obtain⟨k,S,a1,n1,c1,a2,n2,c2,q,rfl,hk,hq⟩:=jq hp
 obtain⟨la,lc,rfl⟩:=hL.form
 by_cases hf:s.made.length=60
 ·have FIN:Hid (kw (zQ ns n d) s l p=(s.stop q 7,l)):=by show _=_;rw[hq];exact anew_full hf
  have hbb:((s.made.length:Int)==60)=true:=by rw[hf];rfl
  clear hm hL hp hs hD hf h60 hk hq
  generalize s.made.length=nm at*
  go_enter Tryz.func160,Tryz.ntmps160
  go_wp2_with fail
  refine(zq CS _ (B1 _) _).mono ?_
  rintro e w2 ⟨rfl,hm2,f2⟩
  have FW:Fl B b none w w2:=(Fl.of (B1 _)).then f2 (fun g e=>by cases e)
  have HFW:=zk FW
  have HM2:=zk hm2
  clear CS hm2 f2 FW
  go_wp2_with fail
  go_ret
  rw[zq FIN]
  obtain⟨bc,bf,hb⟩:=zq MB
  exact⟨_,rfl,(zq HL).fl (zq HFW) hb (Zv _) (fun g _ e=>by cases e),⟨_,zq HM2⟩,(zq HFW).none,Nx.refl _ _⟩
 ·have hbb:((s.made.length:Int)==60)=false:=by rw[beq_eq_false_iff_ne];omega
  have FIN:Hid (kw (zQ ns n d) s l p=(((kW (zQ ns n d) p s.made.length ⟨s.made++[([],0,[])],s.left,s.pl,s.why⟩).1).fin s.made.length q (kW (zQ ns n d) p s.made.length ⟨s.made++[([],0,[])],s.left,s.pl,s.why⟩).2,ji l (2,[],(s.made.length:Int)))):=by show _=_;rw[hq];exact anew_on hf
  have h59:s.made.length<60:=by omega
  obtain⟨-,cs,HO,hpr⟩:=id hm.made
  have HPR:=zk hpr
  obtain⟨ti,hi0,hz0,hz1,hz2⟩:=info_parts prod_info
  have MON:=zk (alts_mono (part_mono ns n d) p s.made.length ⟨s.made++[([],0,[])],s.left,s.pl,s.why⟩).1
  have HAA:=zk HA
  clear hm hL hp hs hD hf h60 hk hq CS HA hpr
  have BX:∀o1 o2,Below w.heap.size w ((w.alloc o1).alloc o2):=fun o1 o2=>(B1 o1).alloc (by simp) o2
  go_enter Tryz.func160,Tryz.ntmps160
  go_wp2_with (at_builtin;refine wpList_append_lies _ rfl _ _ 22 rfl B 41 ti _ 3 56 Tryz.underlying22 hi0 hz0 hz1 hz2 rfl (by omega) _ _ _ rfl ((HO.alloc _).alloc _) ⟨w.heap.size+1,0,none⟩ 1 1 [.slice none 0 0,.int .i64 0,.slice none 0 0] rfl rfl (new_prod _ _ _ _ _ (by simp)) (by simp[Value.oneCell']) (by omega) (by unfold maxLen;omega) (by omega) (by simp;omega) (w.heap.size+2) (by simp) ?_;intro gg cap1 w6 hown1 hgrow hat hlt1;have hb6:w6.heap[b]? =some (.cells (qw (.slice ma s.made.length mc) m b d s) 111):=(hgrow.block b (by simp<;>omega) (fun e=>(zq HM).made_ne b e.symm rfl)).trans (zK (zK (zq HM).cells _) _);obtain⟨u0,-,-,-,-,-,z0,-,-,-,-⟩:=yV hb6;have s6:=hgrow.size;have hb6l:b<w6.heap.size:=(Array.getElem?_eq_some_iff.1 hb6).1;have P0:w6.heap[w.heap.size]? =some (.cells #[.int .i64 k,.string S,.slice a1 n1 c1,.slice a2 n2 c2,.int .i64 q] 149):=(hgrow.block _ (by simp<;>omega) (fun e=>by have:=(HO.lt _ e.symm).2;omega)).trans (zK (heap_alloc_new w _) _);have MG:=zk ((zq HM).grow (BX (.cells #[.int .i64 k,.string S,.slice a1 n1 c1,.slice a2 n2 c2,.int .i64 q] 149) (.cells #[.slice none 0 0,.int .i64 0,.slice none 0 0] 41)) h59 (zq HPR) (p:=([],0,[])) (AltV.none _ _) (NotV.none _) hown1 hgrow (by rcases hat with h|h;exact .inl h;exact .inr (by simp[h])));have s6':w.heap.size+2≤w6.heap.size:=(by rw[World.size_alloc,World.size_alloc]at s6;exact s6);clear hb6 hown1 hgrow hat HO BX)
  -- the region that draws
  obtain⟨mg,fg⟩:=zq MG
  have P0:((w6.setCell ⟨b,0,none⟩ (.slice (some ⟨gg,0,none⟩) (s.made.length+1) cap1)).alloc (.cells #[.int .i64 2,.slice none 0 0,.int .i64 (s.made.length:Int)] 43)).heap[w.heap.size]? =some (.cells #[.int .i64 k,.string S,.slice a1 n1 c1,.slice a2 n2 c2,.int .i64 q] 149):=zK (zw P0 (by omega) _) _
  have P1:((w6.setCell ⟨b,0,none⟩ (.slice (some ⟨gg,0,none⟩) (s.made.length+1) cap1)).alloc (.cells #[.int .i64 2,.slice none 0 0,.int .i64 (s.made.length:Int)] 43)).heap[w6.heap.size]? =some (.cells #[.int .i64 2,.slice none 0 0,.int .i64 (s.made.length:Int)] 43):=by have:=heap_alloc_new (w6.setCell ⟨b,0,none⟩ (.slice (some ⟨gg,0,none⟩) (s.made.length+1) cap1)) (.cells #[.int .i64 2,.slice none 0 0,.int .i64 (s.made.length:Int)] 43);simpa using this
  have sW:((w6.setCell ⟨b,0,none⟩ (.slice (some ⟨gg,0,none⟩) (s.made.length+1) cap1)).alloc (.cells #[.int .i64 2,.slice none 0 0,.int .i64 (s.made.length:Int)] 43)).heap.size=w6.heap.size+1:=by simp
  have MW:=mg.later (Below.new1 (.cells #[.int .i64 2,.slice none 0 0,.int .i64 (s.made.length:Int)] 43))
  have FW:=fg.then (Fl.of (x:=none) (Below.new1 (.cells #[.int .i64 2,.slice none 0 0,.int .i64 (s.made.length:Int)] 43))) (fun g e=>by cases e)
  clear MG mg fg u0 z0
  generalize ((w6.setCell ⟨b,0,none⟩ (.slice (some ⟨gg,0,none⟩) (s.made.length+1) cap1)).alloc (.cells #[.int .i64 2,.slice none 0 0,.int .i64 (s.made.length:Int)] 43))=WW at*
  obtain⟨bc,bf,hb⟩:=zq MB
  have LW:=zk ((zq HL).fl FW hb (Zv _) (fun g _ e=>by cases e))
  have PW:=zk (PartB.fl FW hb (Zv _) (zq HBB) (zq HP))
  have CA:=zk (fun W (bW:Below WW.heap.size WW W)=>zq HAA _ W B b m _ _ p s.made.length (Nat.le_trans (zq HBB) (Nat.le_trans FW.size bW.size)) (fun k hk=>zq HDV k (Nat.le_trans FW.size (Nat.le_trans bW.size hk))) ⟨_,MW.later bW⟩ (PartB.kept (fun g hg=>⟨hg,bW.block g (Nat.lt_of_lt_of_le hg (Nat.le_trans (zq HBB) FW.size))⟩) (KR.of bW) (n+1) _ p (zq PW)) (zq HSP))
  rw[hG]at CA
  generalize hr:kW (zQ ns n d) p s.made.length ⟨s.made++[([],0,[])],s.left,s.pl,s.why⟩=r at*
  have hn8:s.made.length<r.1.made.length:=by have:=zq MON;simp at this;omega
  have HFW:=zk FW
  have HMW:=zk MW.cells
  clear MW FW hr MON HAA
  refine wp_region_held_drew (S:=(fun w'=>w'.heap[w.heap.size]? =some (.cells #[.int .i64 k,.string S,.slice a1 n1 c1,.slice a2 n2 c2,.int .i64 q] 149)∧w'.heap[w6.heap.size]? =some (.cells #[.int .i64 2,.slice none 0 0,.int .i64 (s.made.length:Int)] 43))) (by kernel_rfl) (⟨P0,P1⟩) (fun hHeld=> ?_)
  refine tkh 0 ?_ rfl (by kernel_rfl) (fun _ _ _ h=>h) ?_ (by assumption) ?_
  rotate_left
  ·intro w hSw;obtain⟨⟨y0,y1,y2,y3,y4⟩,-⟩:=yW hSw.1;obtain⟨⟨x0,x1,x2⟩,-⟩:=jJ hSw.2;(try clear hSw);go_simp;(try with_reducible rfl)
  try simp only[pls]
  refine tkh 1 ?_ rfl (by kernel_rfl) (fun _ _ _ h=>h) ?_ (by assumption) ?_
  rotate_left
  ·intro w hSw;obtain⟨⟨y0,y1,y2,y3,y4⟩,-⟩:=yW hSw.1;obtain⟨⟨x0,x1,x2⟩,-⟩:=jJ hSw.2;(try clear hSw);go_simp;(try with_reducible rfl)
  try simp only[pls]
  refine tkh 2 ?_ rfl (by kernel_rfl) (fun _ _ _ h=>h) ?_ (by assumption) ?_
  rotate_left
  ·intro w hSw;obtain⟨⟨y0,y1,y2,y3,y4⟩,-⟩:=yW hSw.1;obtain⟨⟨x0,x1,x2⟩,-⟩:=jJ hSw.2;(try clear hSw);go_simp;(try with_reducible rfl)
  try simp only[pls]
  refine tkh 3 ?_ rfl (by kernel_rfl) (fun _ _ _ h=>h) ?_ (by assumption) ?_
  rotate_left
  ·intro w hSw;obtain⟨⟨y0,y1,y2,y3,y4⟩,-⟩:=yW hSw.1;obtain⟨⟨x0,x1,x2⟩,-⟩:=jJ hSw.2;(try clear hSw);go_simp;(try with_reducible rfl)
  try simp only[pls]
  refine tkh 4 ?_ rfl (by kernel_rfl) (fun _ _ _ h=>h) ?_ (by assumption) ?_
  rotate_left
  ·intro w hSw;obtain⟨⟨y0,y1,y2,y3,y4⟩,-⟩:=yW hSw.1;obtain⟨⟨x0,x1,x2⟩,-⟩:=jJ hSw.2;(try clear hSw);go_simp;(try with_reducible rfl)
  try simp only[pls]
  refine tkh 5 ?_ rfl (by kernel_rfl) (fun _ _ _ h=>h) ?_ (by assumption) ?_
  rotate_left
  ·intro w hSw;obtain⟨⟨y0,y1,y2,y3,y4⟩,-⟩:=yW hSw.1;obtain⟨⟨x0,x1,x2⟩,-⟩:=jJ hSw.2;(try clear hSw);go_simp;(try with_reducible rfl)
  try simp only[pls]
  refine wpAnyH_ready (rs:=[6]) (by kernel_rfl) (by simp) ?_
  refine AllReadyH.cons rfl (fun K hK=> ?_) AllReadyH.nil
  go_simp
  refine(zq CA _ zX).mono ?_
  clear CA
  rintro e w8 ⟨av,rfl,alt8,⟨mv8,mk8⟩,fl8,l9⟩
  have fl8:Fl B b none WW w8:=(Fl.of (x:=none) (zX (k:=1) (w:=WW))).then fl8 (fun g e=>by cases e)
  have P0:w8.heap[w.heap.size]? =some (.cells #[.int .i64 k,.string S,.slice a1 n1 c1,.slice a2 n2 c2,.int .i64 q] 149):=fl8.block _ _ P0 (by omega) (by simp) (fun cs fr e=>by injection e with _ e;exact absurd e (by decide))
  have P1:w8.heap[w6.heap.size]? =some (.cells #[.int .i64 2,.slice none 0 0,.int .i64 (s.made.length:Int)] 43):=fl8.block _ _ P1 (by omega) (by simp) (fun cs fr e=>by injection e with _ e;exact absurd e (by decide))
  have CF:=zk (ffin_l mk8 s.made.length hn8 k S a1 n1 c1 a2 n2 c2 q av r.2 alt8 (Nat.le_trans l9 (by omega)))
  have HF8:=zk ((zq HFW).then fl8 (fun g e=>by cases e))
  obtain⟨va1,va2,rfl,-,-⟩:=alt8.form
  have h8:=mk8.lt
  have HB8:=zk mk8.blk
  clear alt8 mk8 fl8 l9 hn8 HMW
  go_wp2_with fail
  refine hK.out _ _ (⟨P0,P1⟩) (fun hHeld=> ?_)
  clear hK K
  try simp only[pls]
  refine wpAnyH_ready (rs:=[7]) (by kernel_rfl) (by simp) ?_
  refine AllReadyH.cons rfl (fun K hK=> ?_) AllReadyH.nil
  go_simp
  refine(zq CF).mono ?_
  clear CF
  rintro e w9 ⟨rfl,mk9,fl9⟩
  have P0:w9.heap[w.heap.size]? =some (.cells #[.int .i64 k,.string S,.slice a1 n1 c1,.slice a2 n2 c2,.int .i64 q] 149):=fl9.block _ _ P0 (by omega) (by simp) (fun cs fr e=>by injection e with _ e;exact absurd e (by decide))
  have P1:w9.heap[w6.heap.size]? =some (.cells #[.int .i64 2,.slice none 0 0,.int .i64 (s.made.length:Int)] 43):=fl9.block _ _ P1 (by omega) (by simp) (fun cs fr e=>by injection e with _ e;exact absurd e (by decide))
  have HF9:=zk ((zq HF8).then fl9 (fun g e=>by cases e))
  have L9:=(zq HL).fl (zq HF9) hb (Zv _) (fun g _ e=>by cases e)
  have CP:=zk (fput_l L9 (Nat.le_trans (zq HBB) (zq HF9).size) 2 (s.made.length:Int) [] none 0 (Rs.nil w9) (Ty.nil w9))
  simp only[List.length_nil]at CP
  have HM9:=zk mk9
  clear mk9 fl9 L9 HF8 LW PW
  go_wp2_with fail
  refine hK.out _ _ (⟨P0,P1⟩) (fun hHeld=> ?_)
  clear hK K
  try simp only[pls]
  refine wpAnyH_done (by kernel_rfl) ?_ _
  obtain⟨⟨x0,x1,x2⟩,-⟩:=jJ P1
  clear P0 P1 HB8 hHeld
  go_wp2_with fail
  refine(zq CP).mono ?_
  clear CP
  rintro e w10 ⟨v10,rfl,lv10,gr10,nx10,kr10⟩
  obtain⟨ya,yc,rfl⟩:=lv10.form
  go_wp2_with fail
  go_ret
  rw[zq FIN]
  exact Yi (zq HL) (zq MB) (zq HM9) (zq HF9) lv10 gr10 nx10
end Go.Proofs.YtcblkmlcbedomaaGreatDoor.F

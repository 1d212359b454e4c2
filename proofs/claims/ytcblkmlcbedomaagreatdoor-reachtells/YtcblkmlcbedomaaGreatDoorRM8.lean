/- Parts of the proof that stand ahead of it (R 8). -/
import Derived.Deep.LoopGhost
import Derived.Test.YtcblkmlcbedomaaGreatDoorRM7
set_option linter.unusedVariables false
set_option linter.unusedSimpArgs false
set_option maxRecDepth 20000
set_option maxHeartbeats 16000000
namespace Go.Proofs.YtcblkmlcbedomaaGreatDoor.Rc
open Go.RowKit Go.Maps Go.Proofs.YtcblkmlcbedomaaGreatDoor.F Go.Proofs.YtcblkmlcbedomaaGreatDoor.Nl
abbrev boxM (mb:Nat):Obj:= .cells #[.map (some mb)] 79
abbrev boxN (many:Nat):Obj:= .cells #[.int .i64 (many:Int)] 3
theorem Xk {W:World} {g:Nat} {x:Value} {t:TypeId} (h:W.heap[g]? =some (.cells #[x] t)):W.cell? ⟨g,0,none⟩=some x:=by simp[World.cell?,h]
structure LookM (M:Nat→World→(Int→Bool)→Prop) (F:Nat) (caps:Array Value) (many N0 base:Nat):Prop where
 keep:∀k W W' T,M k W T→Below N0 W W'→M k W' T
 look:∀k W T (n:Nat),M k W T→n<many→T (n:Int)=true→N0≤W.heap.size→Calls Tryz.prog F (#[.int .i64 (n:Int)]++caps) W fun e w'=>∃v l k',e= .returned v∧K.Ns w' v l∧l.length≤100000∧
  (∀y∈l,∃m:Nat,y=(m:Int)∧m<many)∧k'<k∧M k' w' (upT (dlT T (n:Int)) l)∧(∀i,N0≤i→i<W.heap.size→w'.heap[i]? =W.heap[i]?)∧Below base W w'
structure SpI (M:Nat→World→(Int→Bool)→Prop) (w:World) (base many:Nat) (T:Int→Bool) (k:Nat) (wr:World):Prop where
 m:M k wr T
 kb:wr.heap[w.heap.size]? =some (boxN many)
 cb:wr.heap[w.heap.size+1+1]? =some (boxM (w.heap.size+1))
 bel:Below base w wr
def SpN (M:Nat→World→(Int→Bool)→Prop) (w:World) (base many:Nat) (T:Int→Bool) (n is:Value) (wr:World):Prop:=
 (∃m:Nat,m<many∧T (m:Int)=true∧n= .int .i64 (m:Int)∧is= .bool true∧TdV wr (w.heap.size+1) many (dlT T (m:Int)))∨(n= .int .i64 0∧is= .bool false∧(∀m:Nat,m<many→T (m:Int)=false)∧TdV wr (w.heap.size+1) many T)
theorem SpI.bo {M:Nat→World→(Int→Bool)→Prop} {F:Nat} {caps:Array Value} {w:World} {base many:Nat} {T:Int→Bool} {k:Nat} {W W':World} (hL:LookM M F caps many w.heap.size base) (hB:base≤w.heap.size) (h:SpI M w base many T k W) (b:Bo (w.heap.size+1) W W'):SpI M w base many T k W':=by
 have s0:=(Array.getElem?_eq_some_iff.1 h.cb).1
 refine⟨hL.keep _ _ _ _ h.m ⟨b.os,b.tape,b.output,b.size,fun i hi=>b.block i (by omega) (fun e=>by injection e;omega)⟩,(b.block _ (by omega) (fun e=>by injection e;omega)).trans h.kb,(b.block _ s0 (fun e=>by injection e;omega)).trans h.cb,?_⟩
 exact h.bel.trans ⟨b.os,b.tape,b.output,b.size,fun i hi=>b.block i (by have:=h.bel.size;omega) (fun e=>by injection e;omega)⟩
theorem SpI.look {M:Nat→World→(Int→Bool)→Prop} {w:World} {base many:Nat} {T T':Int→Bool} {k k':Nat} {W W':World} (h:SpI M w base many T k W) (m:M k' W' T') (far:∀i,w.heap.size≤i→i<W.heap.size→W'.heap[i]? =W.heap[i]?) (b:Below base W W'):SpI M w base many T' k' W':=
 ⟨m,(far _ (Nat.le_refl _) (Array.getElem?_eq_some_iff.1 h.kb).1).trans h.kb,(far _ (by omega) (Array.getElem?_eq_some_iff.1 h.cb).1).trans h.cb,h.bel.trans b⟩
theorem spread_l (M:Nat→World→(Int→Bool)→Prop) (F:Nat) (caps:Array Value) (many base k0:Nat) (HE:∀args W,(callFunc F args).run Tryz.prog W= .ok (.enter F args) W) (v:Value) (l:List Int) (w:World) (hL:LookM M F caps many w.heap.size base) (hB:base≤w.heap.size)
  (hv:K.Ns w v l) (hl:l.length≤1000000) (hr:∀y∈l,∃m:Nat,y=(m:Int)∧m<many) (hm:many≤1000000) (hM:M k0 w (upT (fun _=>false) l)):
  Calls Tryz.prog 86 #[.int .i64 (many:Int),v,.func (.func F) #[] caps] w fun e w'=>e= .returned (.tuple #[])∧∃k T,M k w' T∧(∀m:Nat,m<many→T (m:Int)=false)∧Below base w w':=by
 have hmm:= @run_makeMap Tryz.prog
 have HL:=zk hL
 have HM:=zk hM
 have HV:=zk hv
 have HR:=zk hr
 have CP:=zk (fun cb mb many T v l W h1 h2 h3 h4 h5 h6=>putS_l cb mb many T v l W h1 h2 h3 h4 h5 h6)
 have CN:=zk (fun kb cb mb many T W h1 h2 h3 h4=>nextS_l kb cb mb many T W h1 h2 h3 h4)
 clear hL hM hv hr
 go_enter Tryz.func86,Tryz.ntmps86
 go_wp2_with fail
 have hsz:(((w.alloc (boxN many)).alloc (.map #[] 0)).alloc (boxM (w.heap.size+1))).heap.size=w.heap.size+3:=by simp
 have SI:SpI M w base many (upT (fun _=>false) l) k0 (((w.alloc (boxN many)).alloc (.map #[] 0)).alloc (boxM (w.heap.size+1))):=by
  have B3:Below w.heap.size w (((w.alloc (boxN many)).alloc (.map #[] 0)).alloc (boxM (w.heap.size+1))):=(((Below.refl _ _).alloc (Nat.le_refl _) _).alloc (by simp) _).alloc (by simp;omega) _
  refine⟨(zq HL).keep _ _ _ _ (zq HM) B3,?_,?_,B3.mono hB⟩
  ·rw[heap_alloc_old _ _ (by simp;omega),heap_alloc_old _ _ (by simp)];exact heap_alloc_new _ _
  ·have:=heap_alloc_new ((w.alloc (boxN many)).alloc (.map #[] 0)) (boxM (w.heap.size+1))
   simpa using this
 have ST:TdV (((w.alloc (boxN many)).alloc (.map #[] 0)).alloc (boxM (w.heap.size+1))) (w.heap.size+1) many (fun _=>false):=by
  have:=td_zero (w.alloc (boxN many)) many
  rw[show(w.alloc (boxN many)).heap.size=w.heap.size+1 by simp]at this
  exact this.keep (heap_alloc_old _ _ (by simp))
 have SN:K.Ns (((w.alloc (boxN many)).alloc (.map #[] 0)).alloc (boxM (w.heap.size+1))) v l:=by
  obtain⟨a,c,e,h1,h2,h3⟩:=zq HV
  refine⟨a,c,e,h1,h2,fun j x hj=> ?_⟩
  obtain⟨g,off,ea,hg,hc⟩:=h3 j x hj
  have hg2:g<((w.alloc (boxN many)).alloc (.map #[] 0)).heap.size:=by simp;omega
  exact⟨g,off,ea,by simp;omega,(World.cell?_of_block ((heap_alloc_old _ _ hg2).trans ((heap_alloc_old _ _ (by simp;omega)).trans (heap_alloc_old _ _ hg)))).trans hc⟩
 generalize ((w.alloc (boxN many)).alloc (.map #[] 0)).alloc (boxM (w.heap.size+1))=W at*
 have hcb:=(Xk SI.cb)
 refine(zq CP _ _ many _ v l W hcb ST SN hl (zq HR) hm).mono ?_
 rintro e w1 ⟨rfl,T1,b1⟩
 have S1:=SI.bo (zq HL) hB b1
 have hkb:=Xk S1.kb
 have hcb1:=Xk S1.cb
 have HS1:=zk S1
 have HT1:=zk T1
 clear HV HR HM SI ST SN hcb b1 S1 T1 hsz
 go_wp2_with fail
 refine(zq CN _ _ _ many _ w1 hkb hcb1 (zq HT1) hm).mono ?_
 rintro e w2 ⟨b2,hN⟩
 obtain⟨n,is,rfl,HN⟩:∃n is,e= .returned (.tuple #[n,is])∧Hid (SpN M w base many (upT (fun _=>false) l) n is w2):=by
  rcases hN with ⟨m,h1,h2,h3,h4⟩|⟨h3,h4,h5⟩
  ·exact⟨_,_,h3,.inl ⟨m,h1,h2,rfl,rfl,h4⟩⟩
  ·exact⟨_,_,h3,.inr ⟨rfl,rfl,h4,h5⟩⟩
 have HS2:=zk ((zq HS1).bo (zq HL) hB b2)
 clear HS1 HT1 hN b2 hkb hcb1
 go_wp2_with fail
 go_loopg [9,10] k0 (fun k n is wr=>∃T,Hid (SpI M w base many T k wr)∧Hid (SpN M w base many T n is wr))
 case atStart=>exact⟨_,HS2,HN⟩
 case round=>
  clear HS2 HN
  obtain⟨T,hS,hN⟩:=hrel
  rcases zq hN with ⟨m,hm1,hm2,rfl,rfl,hT⟩|⟨rfl,rfl,h0,hT⟩
  ·have CL:=zk ((zq HL).look gk wr T m (zq hS).m hm1 hm2 (by have:=(Array.getElem?_eq_some_iff.1 (zq hS).kb).1;omega))
   have HT:=zk hT
   clear hN hT hm2
   go_wp2_with fail
   refine(zq CL).mono ?_
   rintro e w3 ⟨v3,l3,k',rfl,n3,hl3,r3,hk',m3,far3,b3⟩
   have S3:=zk (SpI.look (zq hS) m3 far3 b3)
   have T3:=zk ((zq HT).keep (far3 _ (by omega) (zq HT).lt))
   have hcb3:=Xk (zq S3).cb
   have CP3:=zk (zq CP _ _ many _ v3 l3 w3 hcb3 (zq T3) n3 (by omega) r3 hm)
   clear CL HT n3 hl3 r3 m3 far3 b3 T3 hS
   go_wp2_with fail
   refine(zq CP3).mono ?_
   rintro e w4 ⟨rfl,T4,b4⟩
   have S4:=zk ((zq S3).bo (zq HL) hB b4)
   have hkb4:=Xk (zq S4).kb
   have hcb4:=Xk (zq S4).cb
   have CN4:=zk (zq CN _ _ _ many _ w4 hkb4 hcb4 T4 hm)
   clear CP3 S3 hcb3 T4 b4
   go_wp2_with fail
   refine(zq CN4).mono ?_
   rintro e w5 ⟨b5,hN⟩
   obtain⟨n,is,rfl,HN⟩:∃n is,e= .returned (.tuple #[n,is])∧Hid (SpN M w base many (upT (dlT T (m:Int)) l3) n is w5):=by
    rcases hN with ⟨q,h1,h2,h3,h4⟩|⟨h3,h4,h5⟩
    ·exact⟨_,_,h3,.inl ⟨q,h1,h2,rfl,rfl,h4⟩⟩
    ·exact⟨_,_,h3,.inr ⟨rfl,rfl,h4,h5⟩⟩
   have HS5:=zk ((zq S4).bo (zq HL) hB b5)
   clear CN4 S4 hN b5 hkb4 hcb4
   go_wp2_with fail
   go_roundg k'
   case rel=>exact⟨_,HS5,HN⟩
   case measure=>exact hk'
  ·have H0:=zk h0
   clear h0 hT hN
   go_wp2_with fail
   go_end0
   exact⟨rfl,_,T,(zq hS).m,zq H0,(zq hS).bel⟩
end Go.Proofs.YtcblkmlcbedomaaGreatDoor.Rc

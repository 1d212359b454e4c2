/- Parts of the proof that stand ahead of it (RankFirsts 3). -/
import Derived.Test.YtcblkmlcbedomaaGreatDoorKM13
set_option linter.unusedVariables false
set_option linter.unusedSimpArgs false
set_option maxRecDepth 20000
set_option maxHeartbeats 16000000
namespace Go.Proofs.YtcblkmlcbedomaaGreatDoor.K
open Go.RowKit Go.Shelf Go.Proofs.YtcblkmlcbedomaaGreatDoor.T Go.Proofs.YtcblkmlcbedomaaGreatDoor.R Go.Proofs.YtcblkmlcbedomaaGreatDoor.F Go.Proofs.YtcblkmlcbedomaaGreatDoor.Nl
theorem ns_later {w X:World} {v:Value} {l:List Int} (h:Ns w v l) (b:Below w.heap.size w X):Ns X v l:=CeV.later (enc:=Value.int .i64) h b
theorem append_none_c {w:World} {base n z c:Nat} {v:Value} {xs:List Value} (hown:w.ownsRow base 3 z v n xs):(Builtin.append_ #[26,26] 26 #[v,.slice none 0 c]).run Tryz.prog w= .ok v w:=by
 obtain⟨i,hi,hz0,hz1,hz2⟩:=infoT intT_info
 rcases hown.2 with ⟨rfl,rfl⟩|⟨g,cap,cur,rfl,_,_,hnc,_⟩
 ·simp[Builtin.append_,run_underlying Tryz.underlying26,sizeOf,typeInfo,hi,Builtin.lenOf,Builtin.firstCells]
 ·simp[Builtin.append_,run_underlying Tryz.underlying26,sizeOf,typeInfo,hi,Builtin.lenOf,Builtin.firstCells,hnc,storeCells]
theorem ns_append {w:World} {base:Nat} {v x:Value} {l m:List Int} (own:InV w base v l) (hb:base≤w.heap.size) (hm:Ns w x m) (hs:l.length+m.length≤1000000):
  ∃v' w',(Builtin.append_ #[26,26] 26 #[v,x]).run Tryz.prog w= .ok v' w'∧InV w' base v' (l++m)∧Below base w w':=by
 obtain⟨ti,hi0,hz0,hz1,hz2⟩:=infoT intT_info
 obtain⟨a,c,rfl,h1,h2,-⟩:=id hm
 cases a with
 |none=>
  have h0:m=[]:=by
   rcases Nat.eq_zero_or_pos m.length with h|h
   ·exact List.eq_nil_of_length_eq_zero h
   ·obtain⟨-,-,-,ad,e,-⟩:=hm.src h;cases e
  subst h0
  exact⟨v,w,append_none_c own,by rw[List.append_nil];exact own,Below.refl _ _⟩
 |some ad=>
  have hcell:∀(j:Nat) (u:Value),(m.map (Value.int .i64))[j]? =some u→w.cell? (ad.add j)=some u:=fun j u hu=>by
   have hj:0<m.length:=by
    rcases Nat.eq_zero_or_pos m.length with h|h
    ·rw[List.eq_nil_of_length_eq_zero h]at hu;simp at hu
    ·exact h
   obtain⟨-,-,-,ad',e,-,h3⟩:=hm.src hj
   injection e with e
   subst e
   exact h3 j u hu
  obtain⟨v',w',hr,own',gr,-⟩:=run_append_own_at (P:=Tryz.prog) (w:=w) base 26 26 3 ti _ 1 8 Tryz.underlying26 hi0 hz0 hz1 hz2 rfl (by omega) v l.length _ own ad m.length c (m.map (Value.int .i64)) (by simp) hcell (fun u hu=>by
   obtain⟨y,-,rfl⟩:=List.mem_map.1 hu;rfl) (by unfold maxLen;omega) (by omega) hb
  refine⟨v',w',hr,?_,(Below.refl base w).grown gr hb (fun k hk=>(Xj own hk).1)⟩
  show World.ownsRow _ _ _ _ _ _ _
  rw[List.length_append,List.map_append]
  exact own'
theorem ce_at {w:World} {a:Option Addr} {n c:Nat} {l:List Int} (h:CeV (Value.int .i64) w (.slice a n c) l) {j:Nat} {x:Int} (hj:l[j]? =some x):∃g off,a=some ⟨g,off,none⟩∧g<w.heap.size∧w.cell? ⟨g,off+j,none⟩=some (.int .i64 x):=by
 obtain⟨a',c',e,-,-,h3⟩:=h
 injection e with e1 e2 e3
 subst e1
 exact h3 j x hj
theorem up_eq {l m:List Int} (h:l.Perm m) (hl:l.Pairwise (· ≤ ·)) (hm:m.Pairwise (· ≤ ·)):l=m:=by
 induction l generalizing m with
 |nil=>exact(List.nil_perm.1 h).symm
 |cons x l ih=>
  cases m with
  |nil=>exact absurd h.length_eq (by simp)
  |cons y m=>
   obtain⟨hx,hl'⟩:=List.pairwise_cons.1 hl
   obtain⟨hy,hm'⟩:=List.pairwise_cons.1 hm
   have e:x=y:=by
    have a:=h.subset List.mem_cons_self
    have b:=h.symm.subset List.mem_cons_self
    rcases List.mem_cons.1 a with a|a
    ·exact a
    ·rcases List.mem_cons.1 b with b|b
     ·exact b.symm
     ·have:=hx y b;have:=hy x a;omega
   subst e
   rw[ih (List.perm_cons _|>.1 h) hl' hm']
theorem rankFirsts_walk (v0:Value) (A:List Int) (v1:Value) (B:List Int) (w:World) (h0:Ns w v0 A) (h1:Ns w v1 B):
  Calls Tryz.prog 8 #[v0,v1] w fun e w'=>e= .returned (.bool true)∧Below w.heap.size w w':=by
 have CA:=zk (fun W=>awake10_l W)
 obtain⟨a,c,rfl,hc1,hc2,-⟩:=id h0
 obtain⟨a',c',rfl,hd1,hd2,-⟩:=id h1
 unfold maxLen at hc2 hd2
 have HA:=zk h0
 have HB:=zk h1
 clear h0 h1
 generalize hn:A.length=n at*
 generalize hm:B.length=m at*
 have HLA:=zk hn
 have HLB:=zk hm
 clear hn hm
 by_cases hbig:60<n∨60<m
 ·by_cases h60:60<n
  ·have b2:decide (60<n)=true:=decide_eq_true h60
   have b2':decide ((60:Int)<(n:Int))=true:=decide_eq_true (by omega)
   clear hbig h60
   go_enter Tryz.func8,Tryz.ntmps8
   go_wp2_with fail
   refine(zq CA _).mono ?_
   rintro e w1 ⟨rfl,b1⟩
   have B1:=zk b1
   clear CA b1
   go_wp2_with fail
   go_ret
   exact⟨rfl,zq B1⟩
  ·have b2:decide (60<n)=false:=decide_eq_false h60
   have b3:decide (60<m)=true:=decide_eq_true (by omega)
   have b2':decide ((60:Int)<(n:Int))=false:=decide_eq_false (by omega)
   have b3':decide ((60:Int)<(m:Int))=true:=decide_eq_true (by omega)
   clear hbig h60
   go_enter Tryz.func8,Tryz.ntmps8
   go_wp2_with fail
   refine(zq CA _).mono ?_
   rintro e w1 ⟨rfl,b1⟩
   have B1:=zk b1
   clear CA b1
   go_wp2_with fail
   go_ret
   exact⟨rfl,zq B1⟩
 ·have hn60:n≤60:=by omega
  have hm60:m≤60:=by omega
  have b2:decide (60<n)=false:=decide_eq_false (by omega)
  have b3:decide (60<m)=false:=decide_eq_false (by omega)
  have b2':decide ((60:Int)<(n:Int))=false:=decide_eq_false (by omega)
  have b3':decide ((60:Int)<(m:Int))=false:=decide_eq_false (by omega)
  clear hbig
  go_enter Tryz.func8,Tryz.ntmps8
  go_wp2_with fail
  refine(zq CA _).mono ?_
  rintro e w1 ⟨rfl,b1⟩
  obtain⟨N,hN⟩:∃N,N=n+m:=⟨_,rfl⟩
  have hN120:N≤120:=by omega
  have lAB:(A++B).length=N:=by rw[List.length_append,zq HLA,zq HLB,hN]
  have HNN:=zk hN
  clear hN
  obtain⟨u1,x1,hap1,own1,c1⟩:=ns_append (InV.nil w1 w1.heap.size) (Nat.le_refl _) (ns_later (zq HA) b1) (by rw[zq HLA];simp;omega)
  obtain⟨u2,x2,hap2,own2,c2⟩:=ns_append own1 c1.size (ns_later (zq HB) (Xk b1 c1)) (by rw[List.nil_append,zq HLA,zq HLB];omega)
  rw[List.nil_append]at own2
  obtain⟨a2,k2,rfl,g1,g2,-⟩:=inv_nsB own2 (Nat.le_refl _)
  rw[lAB]at hap2 own2 g1
  unfold maxLen at g2
  have BX:=zk (Xk b1 (c1.trans c2))
  have NA:=zk (Ns.of_own own2)
  have HLAB:=zk lAB
  clear CA own1 own2 c1 c2 b1 lAB
  go_wp2_with (at_builtin;first|refine app_runk rfl _ _ 26 26 rfl rfl _ _ rfl rfl hap1 ?_|refine app_runk rfl _ _ 26 26 rfl rfl _ _ rfl rfl hap2 ?_)
  go_loopw [7,8] (fun tv i wr=>∃(k:Nat) (out:List Int),k≤N∧i= .int .i64 (k:Int)∧Hid (out=((A++B).drop k).reverse)∧Hid (InV wr x2.heap.size tv out)∧Hid (Below x2.heap.size x2 wr)) (fun _ i _=>(intOf i).toNat)
  case atStart=>exact⟨N,[],Nat.le_refl _,rfl,by show _=_;rw[←zq HLAB,List.drop_length];rfl,InV.nil _ _,Below.refl _ _⟩
  case round=>
   obtain⟨k,out,hk,rfl,hO,hI,hB⟩:=hrel
   rcases Nat.eq_zero_or_pos k with h0|h0
   ·subst h0
    have HO:Hid (out.Perm (A++B)):=by
     show List.Perm _ _
     rw[zq hO,List.drop_zero];exact List.reverse_perm _
    clear hO
    have N1:=zk (ns_later (zq NA) (zq hB))
    have HBX:=zk ((zq BX).trans ((zq hB).mono (zq BX).size))
    have HI0:=zk (Ns.of_own (zq hI))
    have lo:out.length=N:=by rw[(zq HO).length_eq,zq HLAB]
    obtain⟨a6,c6,e6,-,-,-⟩:=inv_nsB (zq hI) (Nat.le_refl _)
    rw[lo]at e6
    subst e6
    have HLO:=zk lo
    clear hI hB lo NA BX
    go_wp2_with fail
    refine(first_l _ (A++B) _ (zq N1) (by rw[zq HLAB];omega)).mono ?_
    rintro e w5 ⟨vx,ox,rfl,ownx,px,ux,b5⟩
    have lx:ox.length=N:=by rw[px.length_eq,zq HLAB]
    rw[lx]at ownx
    have NX:=zk (ceOwn (enc:=Value.int .i64) (show w5.ownsRow _ _ 1 vx ox.length _ from by rw[lx];exact ownx))
    obtain⟨ax,cx,ex,-,-,-⟩:=zq NX
    rw[lx]at ex
    subst ex
    have HLX:=zk lx
    have HPX:=zk px
    have HUX:=zk ux
    have N5:=zk (ns_later (zq HI0) b5)
    have HBY:=zk ((zq HBX).trans (b5.mono (zq HBX).size))
    clear lx px ux ownx b5 N1 HI0 HBX
    go_wp2_with fail
    refine(first_l _ out _ (zq N5) (by rw[zq HLO];omega)).mono ?_
    rintro e w6 ⟨vy_,oy,rfl,owny,py,uy,b6⟩
    obtain rfl:oy=ox:=up_eq (py.trans ((zq HO).trans (zq HPX).symm)) uy (zq HUX)
    have NY:=zk (ceOwn (enc:=Value.int .i64) owny)
    obtain⟨ay,cy,ey,-,-,-⟩:=zq NY
    rw[zq HLX]at ey
    subst ey
    have NX6:=zk (CeV.later (zq NX) b6)
    have HBZ:=zk ((zq HBY).trans (b6.mono (zq HBY).size))
    have NA6:=zk (ns_later (zq HA) (zq HBZ))
    clear owny py uy b6 N5 HBY NX HO
    go_wp2_with fail
    refine(first_l _ A _ (zq NA6) (by rw[zq HLA];omega)).mono ?_
    rintro e w7 ⟨vz_,oz,rfl,ownz,pz,uz,b7⟩
    have lz:oz.length=n:=by rw[pz.length_eq,zq HLA]
    obtain⟨u7,x7,hap7,own7,c7⟩:=ns_append (InV.nil w7 w7.heap.size) (Nat.le_refl _) (Ns.of_own ownz) (by rw[lz];simp;omega)
    rw[List.nil_append]at own7
    have NX7:=zk (CeV.later (zq NX6) b7)
    have NY7:=zk (CeV.later (zq NY) b7)
    have HB7:=zk ((zq HBZ).trans (b7.mono (zq HBZ).size))
    have NB7:=zk (ns_later (zq HB) ((zq HB7).trans (c7.mono (zq HB7).size)))
    have HC7:=zk c7
    have OW7:=zk own7
    have HPZ:=zk pz
    have HLZ:=zk lz
    obtain⟨az,cz,ez,-,-,-⟩:=ceOwn (enc:=Value.int .i64) ownz
    rw[lz]at ez
    subst ez
    have S7:=c7.size
    clear ownz pz uz b7 own7 c7 lz NA6 NX6 NY HBZ
    go_wp2_with (at_builtin;refine app_runk rfl _ _ 26 26 rfl rfl _ _ rfl rfl hap7 ?_)
    refine(first_l _ B _ (zq NB7) (by rw[zq HLB];omega)).mono ?_
    rintro e w8 ⟨vb,ob,rfl,ownb,pb,ub,b8⟩
    have lb:ob.length=m:=by rw[pb.length_eq,zq HLB]
    obtain⟨u8,x8,hap8,own8,c8⟩:=ns_append (own_lat b8 (zq OW7)) (Nat.le_trans S7 b8.size) (Ns.of_own ownb) (by rw[lb,zq HLZ];omega)
    have C8:Below w7.heap.size w7 x8:=(zq HC7).trans ((b8.mono S7).trans c8)
    have NX8:=zk (CeV.later (zq NX7) C8)
    have NY8:=zk (CeV.later (zq NY7) C8)
    have HB8:=zk ((zq HB7).trans (C8.mono (zq HB7).size))
    have N8:=zk (Ns.of_own own8)
    have PZ:(oz++ob).Perm (A++B):=(List.Perm.append_right _ (zq HPZ)).trans (List.Perm.append_left _ pb)
    have lz:(oz++ob).length=N:=by rw[PZ.length_eq,zq HLAB]
    have HPQ:=zk PZ
    have HLQ:=zk lz
    obtain⟨a8,k8,e8,-,-,-⟩:=inv_nsB own8 (Nat.le_refl _)
    rw[lz]at e8
    subst e8
    obtain⟨ab,cb,eb,-,-,-⟩:=ceOwn (enc:=Value.int .i64) ownb
    rw[lb]at eb
    subst eb
    clear ownb pb ub b8 own8 c8 PZ lz lb C8 NX7 NY7 HB7 NB7 OW7 HPZ HLZ HC7
    go_wp2_with (at_builtin;refine app_runk rfl _ _ 26 26 rfl rfl _ _ rfl rfl hap8 ?_)
    refine(first_l _ (oz++ob) _ (zq N8) (by rw[zq HLQ];omega)).mono ?_
    rintro e w9 ⟨vq,oq,rfl,ownq,pq,uq,b9⟩
    obtain rfl:oq=oy:=up_eq (pq.trans ((zq HPQ).trans (zq HPX).symm)) uq (zq HUX)
    have NZ:=zk (ceOwn (enc:=Value.int .i64) ownq)
    obtain⟨aq,cq,eq,-,-,-⟩:=zq NZ
    rw[zq HLX]at eq
    subst eq
    have NX9:=zk (CeV.later (zq NX8) b9)
    have NY9:=zk (CeV.later (zq NY8) b9)
    have HB9:=zk ((zq HB8).trans (b9.mono (zq HB8).size))
    clear ownq pq uq b9 NX8 NY8 HB8 N8 HPQ HLQ hap7 hap8
    go_wp2_with fail
    go_loopw [12] (fun i wr=>∃q:Nat,q≤N∧i= .int .i64 (q:Int)∧Hid (Below w9.heap.size w9 wr)) (fun i _=>N-(intOf i).toNat)
    case atStart=>exact⟨0,Nat.zero_le _,rfl,Below.refl _ _⟩
    case round=>
     obtain⟨q,hq,rfl,hB⟩:=hrel
     by_cases hlt:q<N
     ·obtain⟨y,hy⟩:∃y,oq[q]? =some y:=⟨oq[q]'(by have:=zq HLX;omega),List.getElem?_eq_getElem _⟩
      obtain⟨f1,o1,eA,-,q1⟩:=ce_at (CeV.later (zq NX9) (zq hB)) hy
      obtain⟨f2,o2,eB,-,q2⟩:=ce_at (CeV.later (zq NY9) (zq hB)) hy
      obtain⟨f3,o3,eC,-,q3⟩:=ce_at (CeV.later (zq NZ) (zq hB)) hy
      subst eA;subst eB;subst eC
      have DB:=zk (fun X (bX:Below wr.heap.size wr X)=>(zq hB).trans (bX.mono (zq hB).size))
      clear hy hB
      go_wp2_with fail
      go_quiet (fail)
      go_wp2_with fail
      exact⟨⟨q+1,by omega,by simp,zq DB _ T.zX⟩,by simp[intOf];omega⟩
     ·obtain rfl:q=N:=by omega
      have HF:=zk ((zq HB9).trans ((zq hB).mono (zq HB9).size))
      clear hB
      go_wp2_with fail
      go_ret
      exact⟨rfl,zq HF⟩
   ·obtain⟨r,rfl⟩:∃r,k=r+1:=⟨k-1,by omega⟩
    obtain⟨y,hy⟩:∃y,(A++B)[r]? =some y:=⟨(A++B)[r]'(by have:=zq HLAB;omega),List.getElem?_eq_getElem _⟩
    obtain⟨a5,c5,e5,-,-,h3⟩:=ns_later (zq NA) (zq hB)
    injection e5 with e1 e2 e3
    subst e1;subst e3
    obtain⟨g,off,rfl,hg,q⟩:=h3 r y hy
    have hol:out.length≤200:=by
     rw[zq hO,List.length_reverse,List.length_drop,zq HLAB];omega
    have bk:decide ((0:Int)<(r:Int)+1)=true:=decide_eq_true (by omega)
    have bk2:decide (0<r+1)=true:=decide_eq_true (by omega)
    obtain⟨v',w',hap,own',gr',-⟩:=intk_append (World.ownsRow.alloc (zq hI) (.cells #[.int .i64 y] 3)) (by simp;have:=(zq hB).size;omega) (heap_alloc_new wr (.cells #[.int .i64 y] 3)) (by omega)
    have HI2:Hid (InV w' x2.heap.size v' (out++[y])):=by
     show World.ownsRow _ _ _ _ _ _ _
     rw[List.length_append,List.length_singleton,List.map_append];exact own'
    have HB2:=zk (((zq hB).alloc (zq hB).size (.cells #[.int .i64 y] 3)).grown gr' (by simp;have:=(zq hB).size;omega) (fun k hk=>((zq hI).lt k hk).1))
    have HO2:Hid (out++[y]=((A++B).drop r).reverse):=by
     obtain⟨hr,e⟩:=List.getElem?_eq_some_iff.1 hy
     show _=_
     rw[zq hO,List.drop_eq_getElem_cons hr,List.reverse_cons,e]
    clear h3 e2 hy hO hI hB own' gr' h0
    go_wp2_with (at_builtin;refine app_runk rfl _ _ 26 26 rfl rfl _ _ rfl rfl hap ?_)
    exact⟨⟨r,out++[y],by omega,by simp,HO2,HI2,HB2⟩,by simp[intOf]⟩
end Go.Proofs.YtcblkmlcbedomaaGreatDoor.K

/- Parts of the proof that stand ahead of it (R 11). -/
import Derived.Test.YtcblkmlcbedomaaGreatDoorTM33
import Derived.Test.YtcblkmlcbedomaaGreatDoorRM10
set_option linter.unusedVariables false
set_option linter.unusedSimpArgs false
set_option maxRecDepth 20000
set_option maxHeartbeats 16000000
namespace Go.Proofs.YtcblkmlcbedomaaGreatDoor.Nl
open Go.RowKit Go.Shelf Go.Proofs.YtcblkmlcbedomaaGreatDoor.T Go.Proofs.YtcblkmlcbedomaaGreatDoor.R Go.Proofs.YtcblkmlcbedomaaGreatDoor.F
theorem InV.nil (w:World) (base:Nat):InV w base (.slice none 0 0) []:=World.ownsRow_nil w base _ _
attribute [local go_sem] Oper.semAt_some
def eqG {α:Type} (e:α→α→Bool):List α→List α→Bool
 | [],[]=>true
 |x::l,y::m=>e x y&&eqG e l m
 |_,_=>false
theorem eqG_drop {α:Type} (e:α→α→Bool) {l m:List α} {k:Nat} (h:k<l.length) (h2:k<m.length):eqG e (l.drop k) (m.drop k)=(e l[k] m[k]&&eqG e (l.drop (k+1)) (m.drop (k+1))):=by
 rw[List.drop_eq_getElem_cons h,List.drop_eq_getElem_cons h2];rfl
theorem eqG_len {α:Type} (e:α→α→Bool):∀(l m:List α),l.length≠m.length→eqG e l m=false:=by
 intro l
 induction l with
 |nil=>intro m h;cases m with
  |nil=>simp at h
  |cons=>rfl
 |cons x l ih=>
  intro m h
  cases m with
  |nil=>rfl
  |cons y m=>unfold eqG;rw[ih m (by simpa using h)];simp
def CeV {α:Type} (enc:α→Value) (w:World) (v:Value) (l:List α):Prop:=∃a c,v= .slice a l.length c∧l.length≤c∧c≤maxLen∧∀j b,l[j]? =some b→∃g off,a=some ⟨g,off,none⟩∧g<w.heap.size∧w.cell? ⟨g,off+j,none⟩=some (enc b)
theorem CeV.later {α:Type} {enc:α→Value} {w X:World} {v:Value} {l:List α} (h:CeV enc w v l) (k:Below w.heap.size w X):CeV enc X v l:=by
 obtain⟨a,c,e,h1,h2,h3⟩:=h
 refine⟨a,c,e,h1,h2,fun j b hj=> ?_⟩
 obtain⟨g,off,ha,hg,hc⟩:=h3 j b hj
 exact⟨g,off,ha,Nat.lt_of_lt_of_le hg k.size,(k.cell (p:=⟨g,off+j,none⟩) hg).trans hc⟩
theorem ceOwn {α:Type} {enc:α→Value} {w:World} {base:Nat} {t:TypeId} {v:Value} {l:List α} (h:w.ownsRow base t 1 v l.length (l.map enc)):CeV enc w v l:=by
 rcases id h.2 with ⟨rfl,h0⟩|⟨g,cap,cur,rfl,hb,hg,hn,hm,hsz,ht⟩
 ·refine⟨none,0,by rw[h0],by omega,Nat.zero_le _,fun j b hj=> ?_⟩
  have:=(List.getElem?_eq_some_iff.1 hj).1;omega
 ·refine⟨_,cap,rfl,hn,hm,fun j b hj=>⟨g,0,rfl,(Array.getElem?_eq_some_iff.1 hg).1,?_⟩⟩
  have:=World.ownsRow.cells h (g:=g) rfl j (enc b) (by rw[List.getElem?_map,hj];rfl)
  rwa [Addr.add_lit]at this
theorem ceNew {α:Type} {enc:α→Value} {w:World} {g:Nat} {t:TypeId} {l:List α} (h:w.heap[g]? =some (.cells (l.map enc).toArray t)) (hl:l.length≤1000):CeV enc w (.slice (some ⟨g,0,none⟩) l.length l.length) l:=
 ⟨_,l.length,rfl,Nat.le_refl _,by unfold maxLen;omega,fun j b hj=>⟨g,0,rfl,(Array.getElem?_eq_some_iff.1 h).1,by simp[World.cell?,h,hj]⟩⟩
theorem bools_l (v1 v2:Value) (l m:List Bool) (w:World) (h1:CeV Value.bool w v1 l) (h2:CeV Value.bool w v2 m):
  Calls Tryz.prog 26 #[v1,v2] w fun e w'=>e= .returned (.bool (eqG (fun x y=>x==y) l m))∧Below w.heap.size w w':=by
 obtain⟨a,c,rfl,hc1,hc2,h3⟩:=h1
 obtain⟨a',c',rfl,hd1,hd2,h3'⟩:=h2
 unfold maxLen at hc2 hd2
 have H1:=zk h3
 have H2:=zk h3'
 clear h3 h3'
 by_cases hl:l.length=m.length
 ·have bl:((l.length:Int) !=(m.length:Int))=false:=by simp[hl]
  have HL:=zk hl
  clear hl
  go_enter Tryz.func26,Tryz.ntmps26
  go_wp2_with fail
  go_loopw [5] (fun i wr=>∃(j:Nat),j≤l.length∧i= .int .i64 (j:Int)∧Hid (eqG (fun x y=>x==y) l m=eqG (fun x y=>x==y) (l.drop j) (m.drop j))∧Hid (Below w.heap.size w wr)) (fun i _=>l.length-(intOf i).toNat)
  case atStart=>exact⟨0,Nat.zero_le _,rfl,rfl,Below.refl _ _⟩
  case round=>
   obtain⟨j,hj,rfl,hO,hB⟩:=hrel
   by_cases hlt:j<l.length
   ·have hlt2:j<m.length:=by rw[←zq HL];exact hlt
    obtain⟨g,off,rfl,hg,q0⟩:=zq H1 j l[j] (by simp[hlt])
    obtain⟨g',off',rfl,hg',q1⟩:=zq H2 j m[j] (by simp[hlt2])
    have ST:=zk (eqG_drop (fun x y=>x==y) hlt hlt2)
    have Q0:∀d,(wr.drewN d).cell? ⟨g,off+j,none⟩=some (Value.bool l[j]):=fun d=>((zq hB).cell (p:=⟨g,off+j,none⟩) hg).trans q0
    have Q1:∀d,(wr.drewN d).cell? ⟨g',off'+j,none⟩=some (Value.bool m[j]):=fun d=>((zq hB).cell (p:=⟨g',off'+j,none⟩) hg').trans q1
    have R0:=Q0 0
    have R1:=Q1 0
    simp only[World.drewN_zero]at R0 R1
    clear q0 q1
    generalize l[j]=x at*
    generalize m[j]=y at*
    by_cases hxy:x=y
    ·have bn:(x !=y)=false:=by simp[hxy]
     have be:(x==y)=true:=by simp[hxy]
     have NX:Hid (eqG (fun x y=>x==y) l m=eqG (fun x y=>x==y) (l.drop (j+1)) (m.drop (j+1))):=by
      show _=_
      rw[zq hO,zq ST,hxy];simp
     clear hxy hO ST
     go_wp2_with fail
     go_quiet (fail)
     go_wp2_with fail
     exact⟨⟨j+1,by omega,by simp,NX,(zq hB).trans zX⟩,by simp[intOf];omega⟩
    ·have bn:(x !=y)=true:=by simpa using hxy
     have be:(x==y)=false:=by simpa using hxy
     have NX:Hid (eqG (fun x y=>x==y) l m=false):=by
      show _=_
      have e:(x==y)=false:=by simpa using hxy
      rw[zq hO,zq ST,e];rfl
     clear hxy hO ST
     go_wp2_with fail
     go_quiet (fail)
     go_wp2_with fail
     go_ret
     exact⟨ret_bool (zq NX).symm,(zq hB).trans zX⟩
   ·obtain rfl:j=l.length:=by omega
    have NX:Hid (eqG (fun x y=>x==y) l m=true):=by
     show _=_
     rw[zq hO,List.drop_eq_nil_of_le (Nat.le_refl _),List.drop_eq_nil_of_le (by rw[zq HL];exact Nat.le_refl _)];rfl
    go_wp2_with fail
    go_ret
    exact⟨ret_bool (zq NX).symm,zq hB⟩
 ·have bl:((l.length:Int) !=(m.length:Int))=true:=by rw[bne_iff_ne];omega
  have NX:=zk (eqG_len (fun x y=>x==y) l m hl)
  clear hl H1 H2
  generalize l.length=nl at*
  generalize m.length=nm at*
  go_enter Tryz.func26,Tryz.ntmps26
  go_wp2_with fail
  go_ret
  exact⟨ret_bool (zq NX).symm,Below.refl _ _⟩
end Go.Proofs.YtcblkmlcbedomaaGreatDoor.Nl
namespace Go.Proofs.YtcblkmlcbedomaaGreatDoor.Rc
open Go.RowKit Go.Maps Go.Proofs.YtcblkmlcbedomaaGreatDoor.F Go.Proofs.YtcblkmlcbedomaaGreatDoor.Nl Go.Proofs.YtcblkmlcbedomaaGreatDoor.K
def BIR (w:World) (base:Nat) (v:Value) (S:List Bool):Prop:=w.ownsRow base 4 1 v S.length (S.map Value.bool)
theorem grB {w w':World} (h:w.grownBy w' none):Below w.heap.size w w':=(Below.refl _ _).grown h (Nat.le_refl _) (fun k hk=>by cases hk)
theorem within_l (aP:Option Addr) (cP:Nat) (P:List PRD) (n:Nat) (w:World) (h:PrM w (.slice aP P.length cP) P) (hg:gramB P=true) (hn:n<P.length):
  Calls Tryz.prog 56 #[.slice aP P.length cP,.int .i64 (n:Int)] w fun e w'=>∃v S,e= .returned v∧BIR w' w.heap.size v S∧S.length=P.length∧(∀m:Nat,S.getD m false=true↔Wi P n (m:Int))∧Below w.heap.size w w':=by
 have h60:=(Xv hg).2.1
 have HE:∀args W,(callFunc 87 args).run Tryz.prog W= .ok (.enter 87 args) W:=enterK Tryz.func87 (by kernel_rfl) rfl
 have B0:Below w.heap.size w (w.alloc (.cells #[.slice aP P.length cP] 22)):=Below.new1 _
 have X0:=heap_alloc_new w (.cells #[.slice aP P.length cP] 22)
 have hs0:(w.alloc (.cells #[.slice aP P.length cP] 22)).heap.size=w.heap.size+1:=by simp
 obtain⟨w1,hr,hB,gr⟩:=mk_bool (w.heap.size+1) P.length (w.alloc (.cells #[.slice aP P.length cP] 22)) (by omega) (by omega)
 rw[hs0]at hr hB
 have hgs:=XZ hB (rfl:(Value.slice (some ⟨w.heap.size+1,0,none⟩) P.length P.length).ownBlock=some (w.heap.size+1))
 have B1:=grB gr
 have X1:=(B1.block _ (by omega:w.heap.size<_)).trans X0
 have BW1:Below w.heap.size w w1:=Xj B0 B1
 clear B0 X0 B1 gr
 have X2:=heap_alloc_new w1 (.cells #[.slice (some ⟨w.heap.size+1,0,none⟩) P.length P.length] 35)
 have B2:Below w1.heap.size w1 ((w1.alloc (.cells #[.slice (some ⟨w.heap.size+1,0,none⟩) P.length P.length] 35)).alloc (.cells #[.int .i64 (n:Int)] 3)):=Xj (Below.new1 _) (Below.new1 _)
 have hs2:(w1.alloc (.cells #[.slice (some ⟨w.heap.size+1,0,none⟩) P.length P.length] 35)).heap.size=w1.heap.size+1:=by simp
 have X3:=heap_alloc_new (w1.alloc (.cells #[.slice (some ⟨w.heap.size+1,0,none⟩) P.length P.length] 35)) (.cells #[.int .i64 (n:Int)] 3)
 rw[hs2]at X3
 have X2':=(heap_alloc_old (w1.alloc (.cells #[.slice (some ⟨w.heap.size+1,0,none⟩) P.length P.length] 35)) (.cells #[.int .i64 (n:Int)] 3) (by rw[hs2];omega)).trans X2
 have hs3:((w1.alloc (.cells #[.slice (some ⟨w.heap.size+1,0,none⟩) P.length P.length] 35)).alloc (.cells #[.int .i64 (n:Int)] 3)).heap.size=w1.heap.size+2:=by simp
 have CS:Hid (Calls Tryz.prog 86 #[.int .i64 (P.length:Nat),.slice (some ⟨w1.heap.size+1,0,none⟩) 1 1,.func (.func 87) #[] #[.pointer (some ⟨w.heap.size,0,none⟩),.pointer (some ⟨w1.heap.size,0,none⟩)]]
   ((w1.alloc (.cells #[.slice (some ⟨w.heap.size+1,0,none⟩) P.length P.length] 35)).alloc (.cells #[.int .i64 (n:Int)] 3)) fun e w'=>e= .returned (.tuple #[])∧∃k T,FrM w P n w.heap.size w1.heap.size (w.heap.size+1) aP cP k w' T∧(∀m:Nat,m<P.length→T (m:Int)=false)∧Below w.heap.size ((w1.alloc (.cells #[.slice (some ⟨w.heap.size+1,0,none⟩) P.length P.length] 35)).alloc (.cells #[.int .i64 (n:Int)] 3)) w'):=by
  refine spread_l (FrM w P n w.heap.size w1.heap.size (w.heap.size+1) aP cP) 87 _ P.length w.heap.size (2*P.length+P.length) HE _ [(n:Int)] _ ⟨fun k W W' T hM b=>hM.keep (by rw[hs3];omega) (by rw[hs3];omega) (by rw[hs3];omega) (by rw[hs3];omega) b,fun k W T m hM hm hT hN=> ?_⟩ (by rw[hs3];omega) (ceNew (enc:=Value.int .i64) (l:=[(n:Int)]) X3 (by simp)) (by simp) (fun y hy=>⟨n,by simpa using hy,hn⟩) (by omega) ?_
  ·rw[hs3]at hN⊢
   have:=withinLook_l w P n w.heap.size w1.heap.size (w.heap.size+1) (w1.heap.size+2) aP cP k m W T h hg hM hm hT (by omega) (by omega) hN (by omega) (by omega) (by omega) (by omega)
   exact this
  ·refine⟨BW1.trans (B2.mono (by omega)),(B2.block _ (by omega)).trans X1,X2',List.replicate P.length false,BtV.kept hB (B2.block _ hgs.2),WiI.begin P n (fun x=>by unfold upT;simp),?_⟩
   have:=cntF_le P.length (bt (List.replicate P.length false))
   omega
 clear X2 X2' X3 B2 hs2 hB
 generalize hNN:P.length=N at*
 have HNN:=zk hNN
 have HBW:=zk BW1
 clear hNN BW1
 have c1:=Xk X1
 have c2:(w1.alloc (.cells #[.slice (some ⟨w.heap.size+1,0,none⟩) N N] 35)).cell? ⟨w.heap.size,0,none⟩=some (.slice aP N cP):=(World.cell?_of_block (heap_alloc_old _ _ (show w.heap.size<w1.heap.size by omega))).trans c1
 have HG:=zk hg
 have HP:=zk h
 clear hg h X1
 go_enter Tryz.func56,Tryz.ntmps56
 go_wp2_with fail
 refine(zq CS).mono ?_
 rintro e w2 ⟨rfl,k,T,hM,h0,b2⟩
 obtain⟨S,hS,hI,-⟩:=hM.go
 have z:=Xk hM.ibx
 rw[zq HNN]at z
 have HM:=zk hM
 have hlen:=hI.len
 rw[zq HNN]at hlen
 have HR:Hid (∀m:Nat,S.getD m false=true↔Wi P n (m:Int)):=fun m=>hI.done (fun m hm=>h0 m (by rw[←zq HNN];exact hm)) (by rw[zq HNN];exact hn) m
 have HS:=zk hS
 clear CS hM h0 b2 hS hI c1 c2 hr
 go_wp2_with fail
 go_ret
 refine⟨_,S,rfl,?_,hlen,zq HR,(zq HM).bel⟩
 show World.ownsRow _ _ _ _ _ _ _
 rw[hlen]
 have:=own_low (zq HS) (show w.heap.size≤w.heap.size+1 from Nat.le_succ _)
 rw[zq HNN]at this
 exact this
def fromS (g:GR) (n:Int) (S:List Bool):Prop:=(gramB g.1=true∧0≤n∧n<(g.1.length:Int)∧S.length=g.1.length∧∀m:Nat,S.getD m false=true↔Wi g.1 n.toNat (m:Int))∨(¬(gramB g.1=true∧0≤n∧n<(g.1.length:Int))∧S=[])
def FromR (w:World) (g:GR) (n:Int) (e:Ending) (w':World):Prop:=∃v S,e= .returned v∧BIR w' w.heap.size v S∧fromS g n S∧Below w.heap.size w w'
theorem BIR.nil (w:World) (base:Nat):BIR w base (.slice none 0 0) []:=World.ownsRow_nil w base _ _
theorem FromR.none {w w':World} {g:GR} {n:Int} (h:¬(gramB g.1=true∧0≤n∧n<(g.1.length:Int))) (b:Below w.heap.size w w'):FromR w g n (.returned (.slice none 0 0)) w':=
 ⟨_,[],rfl,BIR.nil _ _,.inr ⟨h,rfl⟩,b⟩
theorem From_l (v:Value) (g:GR) (n:Int) (w:World) (h:GrM w v g):Calls Tryz.prog 27 #[v,.int .i64 n] w fun e w'=>FromR w g n e w':=by
 have CM:=zk (fun W (bW:Below w.heap.size w W)=>fMayM_l v g W (h.later bW))
 obtain⟨a,c,aK,cK,rfl,hp,-⟩:=id h
 cases hg:gramB g.1 with
 |false=>
  rw[hg]at CM
  have HF:Hid (∀W,Below w.heap.size w W→FromR w g n (.returned (.slice none 0 0)) W):=fun W b=>FromR.none (fun c=>by rw[hg]at c;cases c.1) b
  clear h hp
  generalize g.1.length=nP at*
  generalize g.2.length=nK at*
  clear hg
  go_enter Tryz.func27,Tryz.ntmps27
  go_wp2_with fail
  refine(zq CM _ (Below.new1 _)).mono ?_
  rintro e w1 ⟨rfl,b1⟩
  clear CM
  go_wp2_with fail
  go_ret
  exact zq HF _ (Xj (Below.new1 _) b1)
 |true=>
  rw[hg]at CM
  have h60:=(Xv hg).2.1
  by_cases h0:n<0
  ·have bn:decide (n<0)=true:=decide_eq_true h0
   have HF:Hid (∀W,Below w.heap.size w W→FromR w g n (.returned (.slice none 0 0)) W):=fun W b=>FromR.none (fun c=>by omega) b
   clear h hp h0
   generalize g.1.length=nP at*
   generalize g.2.length=nK at*
   clear hg
   go_enter Tryz.func27,Tryz.ntmps27
   go_wp2_with fail
   refine(zq CM _ (Below.new1 _)).mono ?_
   rintro e w1 ⟨rfl,b1⟩
   clear CM
   go_wp2_with fail
   go_ret
   exact zq HF _ (Xj (Below.new1 _) b1)
  ·have bn:decide (n<0)=false:=decide_eq_false h0
   by_cases h1:(g.1.length:Int)≤n
   ·have bm:decide ((g.1.length:Int)≤n)=true:=decide_eq_true h1
    have HF:Hid (∀W,Below w.heap.size w W→FromR w g n (.returned (.slice none 0 0)) W):=fun W b=>FromR.none (fun c=>by omega) b
    clear h hp h0 h1
    generalize g.1.length=nP at*
    generalize g.2.length=nK at*
    clear hg
    go_enter Tryz.func27,Tryz.ntmps27
    go_wp2_with fail
    have G0:=heap_alloc_new w (.cells #[.slice a nP c,.slice aK nK cK] 25)
    refine(zq CM _ (Below.new1 _)).mono ?_
    rintro e w1 ⟨rfl,b1⟩
    have G1:=(b1.block _ (Array.getElem?_eq_some_iff.1 G0).1).trans G0
    obtain⟨y0,y1⟩:=XX G1
    have B1:=zk (Xj (Below.new1 _) b1)
    clear CM G0 G1 b1
    go_wp2_with fail
    go_ret
    exact zq HF _ (zq B1)
   ·obtain⟨i,rfl⟩:=Int.eq_ofNat_of_zero_le (show 0≤n by omega)
    have bm:decide ((g.1.length:Int)≤(i:Int))=false:=decide_eq_false h1
    have bm2:decide (g.1.length≤i)=false:=decide_eq_false (by omega)
    have CW:=zk (fun W (bW:Below w.heap.size w W)=>within_l a c g.1 i W (hp.later bW) hg (by omega))
    have HF:Hid (∀v S W,Below w.heap.size w W→BIR W w.heap.size v S→S.length=g.1.length→(∀m:Nat,S.getD m false=true↔Wi g.1 i (m:Int))→FromR w g (i:Int) (.returned v) W):=
     fun v S W b h2 h3 h4=>⟨v,S,rfl,h2,.inl ⟨hg,by omega,by omega,h3,h4⟩,b⟩
    clear h hp h0 h1
    generalize hnP:g.1.length=nP at*
    generalize g.2.length=nK at*
    clear hg hnP
    go_enter Tryz.func27,Tryz.ntmps27
    go_wp2_with fail
    have G0:=heap_alloc_new w (.cells #[.slice a nP c,.slice aK nK cK] 25)
    refine(zq CM _ (Below.new1 _)).mono ?_
    rintro e w1 ⟨rfl,b1⟩
    have G1:=(b1.block _ (Array.getElem?_eq_some_iff.1 G0).1).trans G0
    obtain⟨y0,y1⟩:=XX G1
    have B1:=zk (Xj (Below.new1 _) b1)
    clear CM G0 G1 b1
    go_wp2_with fail
    refine(zq CW _ (zq B1)).mono ?_
    rintro e w2 ⟨v,S,rfl,hv,hl,hm,b2⟩
    have FIN:=zk (zq HF v S w2 (Xj (zq B1) b2) (own_low hv (zq B1).size) hl hm)
    clear CW hv hl hm b2 B1 HF
    go_wp2_with fail
    go_ret
    exact zq FIN
def syB (S:List Bool) (s:SY):Bool:=if s.1=0 then decide (0<s.2.1.length)else if s.1=1 then hsB s.2.1 else bt S s.2.2.toNat
def alB (S:List Bool) (l:List SY):Bool:=l.all (syB S)
def soB (S:List Bool) (A:List (List SY)):Bool:=A.any (alB S)
theorem syB_iff {S:List Bool} {s:SY}:syB S s=true↔syT (kn S) s:=by
 unfold syB syT kn
 split
 ·simp
 ·split<;>rfl
theorem soB_iff {P:List PRD} {S:List Bool} {n:Nat} {p:PRD} (hp:P[n]? =some p):soB S p.1=true↔prT P (kn S) n:=by
 unfold soB alB prT alT
 rw[List.any_eq_true]
 constructor
 ·rintro⟨a,ha,h⟩
  exact⟨p,hp,a,ha,fun s hs=>syB_iff.1 (List.all_eq_true.1 h s hs)⟩
 ·rintro⟨q,hq,a,ha,h⟩
  rw[hp]at hq
  obtain rfl:=Option.some.inj hq
  exact⟨a,ha,List.all_eq_true.2 fun s hs=>syB_iff.2 (h s hs)⟩
theorem hasScalar_l (a:Option Addr) (c:Nat) (l:List (Int×Int)) (w:World) (h:Rs w a l.length c l):
  Calls Tryz.prog 207 #[.slice a l.length c] w fun e w'=>e= .returned (.bool (hsB l))∧w'=w:=by
 have hc:=h.hcap
 have hm:=h.hmax
 unfold maxLen at hm
 have CM:=zk (fun r W=>may_any r W)
 unfold hsB
 by_cases h0:l.length=0
 ·rw[h0]at*
  clear h
  go_enter Tryz.func207,Tryz.ntmps207
  go_wp2_with fail
  go_ret
  exact⟨rfl,rfl⟩
 ·obtain⟨g,off,e,q1,-⟩:=h.hcell 0 (by omega)
  subst e
  obtain⟨g',off',e,-,q2⟩:=h.hcell (l.length-1) (by omega)
  injection e with e
  injection e with e1 e2
  subst e1;subst e2
  rw[Nat.zero_mul,Nat.add_zero]at q1
  have hx:((l.length:Int)-1)=((l.length-1:Nat):Int):=by omega
  have h1:l.length-1<l.length:=by omega
  have b0:decide ((0:Int)<(l.length:Int))=true:=decide_eq_true (by omega)
  have b1:decide (0<l.length)=true:=decide_eq_true (by omega)
  rw[b1,Bool.true_and]
  clear h h0
  generalize hi:l.length-1=i at*
  generalize (l.getD i (0,0)).2=H at*
  generalize (l.getD 0 (0,0)).1=L at*
  generalize l.length=n at*
  clear hi
  cases hL:U.zo L with
  |true=>
   have CL:=zk (zq CM L w)
   rw[hL]at CL
   clear hL
   go_enter Tryz.func207,Tryz.ntmps207
   go_wp2_with fail
   refine(zq CL).mono ?_
   rintro e w1 ⟨rfl,hw⟩
   subst hw
   go_wp2_with fail
   go_ret
   exact⟨rfl,rfl⟩
  |false=>
   have CL:=zk (zq CM L w)
   rw[hL]at CL
   have CH:=zk (zq CM H w)
   rw[Bool.false_or]
   clear hL
   generalize U.zo H=mh at*
   go_enter Tryz.func207,Tryz.ntmps207
   go_wp2_with fail
   refine(zq CL).mono ?_
   rintro e w1 ⟨rfl,hw⟩
   subst hw
   go_wp2_with fail
   refine(zq CH).mono ?_
   rintro e w2 ⟨rfl,hw⟩
   subst hw
   go_wp2_with fail
   go_ret
   exact⟨rfl,rfl⟩
theorem ofT_l (gs N c:Nat) (x:Option Addr) (S:List Bool) (s:SY) (w:World) (hS:BtV w gs N S) (h:Rs w x s.2.1.length c s.2.1) (hk:s.1=0∨s.1=1∨(s.1=2∧0≤s.2.2∧s.2.2<(N:Int))) (hN:N≤1000000):
  Calls Tryz.prog 179 #[.slice (some ⟨gs,0,none⟩) N N,.agg #[.int .i64 s.1,.slice x s.2.1.length c,.int .i64 s.2.2]] w fun e w'=>e= .returned (.bool (syB S s))∧Below w.heap.size w w':=by
 have CH:=zk (fun W (bW:Below w.heap.size w W)=>hasScalar_l x c s.2.1 W (h.later bW (Nat.le_refl _)))
 have hgl:=(XZ hS (rfl:(Value.slice (some ⟨gs,0,none⟩) N N).ownBlock=some gs)).2
 unfold syB
 have hc:=h.hcap
 have hm:=h.hmax
 unfold maxLen at hm
 have hS2:=zk hS
 clear h hS
 generalize hsB s.2.1=hb at*
 obtain⟨k,R,n⟩:=s
 simp only at hk hc CH⊢
 generalize R.length=r at*
 rcases hk with rfl|rfl|⟨rfl,h0,h1⟩
 ·rw[if_pos rfl]
  have bb:decide ((0:Int)<(r:Int))=decide (0<r):=by rw[decide_eq_decide];omega
  clear CH hS2
  go_enter Tryz.func179,Tryz.ntmps179
  go_wp2_with fail
  all_goals go_ret
  all_goals exact⟨by first|rfl|(simp;done)|(simp_all;done),Below.new1 _⟩
 ·rw[if_neg (by decide),if_pos rfl]
  clear hS2
  go_enter Tryz.func179,Tryz.ntmps179
  go_wp2_with fail
  refine(zq CH _ (Below.new1 _)).mono ?_
  rintro e w1 ⟨rfl,rfl⟩
  go_wp2_with fail
  go_ret
  exact⟨rfl,Below.new1 _⟩
 ·rw[if_neg (by decide),if_neg (by decide)]
  obtain⟨q,rfl⟩:=Int.eq_ofNat_of_zero_le h0
  have tq:(w.alloc (.cells #[.int .i64 2,.slice x r c,.int .i64 (q:Int)] 43)).cell? ⟨gs,q,none⟩=some (.bool (bt S q)):=(World.cell?_of_block (a:=⟨gs,q,none⟩) (heap_alloc_old _ _ hgl)).trans (BR.at (zq hS2) (i:=q) (by omega))
  have eq:((q:Int)).toNat=q:=rfl
  rw[eq]
  generalize bt S q=b at*
  have hq:q<N:=by omega
  clear CH hS2 h0 h1 eq
  go_enter Tryz.func179,Tryz.ntmps179
  go_wp2_with fail
  go_ret
  exact⟨rfl,Below.new1 _⟩
theorem okS {P:List PRD} (hg:gramB P=true) {p:PRD} (hp:p∈P) {a:List SY} (ha:a∈p.1) {s:SY} (hs:s∈a):s.1=0∨s.1=1∨(s.1=2∧0≤s.2.2∧s.2.2<(P.length:Int)):=by
 have key:symB s P.length=true:=by
  unfold gramB at hg
  simp only[Bool.and_eq_true,decide_eq_true_eq,List.all_eq_true]at hg
  have:=hg.2.2 p hp
  unfold prodB fitsB at this
  simp only[Bool.and_eq_true,decide_eq_true_eq,List.all_eq_true,Bool.not_eq_true',List.any_eq_false,longB]at this
  obtain⟨⟨-,h8,h40⟩,-,-,-,hs'⟩:=this
  exact hs' a ha s hs
 unfold symB at key
 by_cases h0:s.1=0
 ·exact .inl h0
 ·rw[if_neg h0]at key
  by_cases h1:s.1=1
  ·exact .inr (.inl h1)
  ·rw[if_neg h1]at key
   by_cases h2:s.1=2
   ·rw[if_pos h2]at key
    simp only[Bool.and_eq_true,decide_eq_true_eq]at key
    exact .inr (.inr ⟨h2,key.1,key.2.1⟩)
   ·rw[if_neg h2]at key;cases key
theorem allT_l (gs N cc:Nat) (x:Option Addr) (S:List Bool) (l:List SY) (w:World) (hS:BtV w gs N S) (h:SyM w (.slice x l.length cc) l) (hk:∀s∈l,s.1=0∨s.1=1∨(s.1=2∧0≤s.2.2∧s.2.2<(N:Int))) (hN:N≤1000000) (hl:l.length≤1000000):
  Calls Tryz.prog 133 #[.slice (some ⟨gs,0,none⟩) N N,.slice x l.length cc] w fun e w'=>e= .returned (.bool (alB S l))∧Below w.heap.size w w':=by
 obtain⟨-,hc1,hc2⟩:=h.form
 unfold maxLen at hc2
 have hgl:=(XZ hS (rfl:(Value.slice (some ⟨gs,0,none⟩) N N).ownBlock=some gs)).2
 have HS:=zk hS
 have HV:=zk h
 have HK:=zk hk
 clear h hS hk
 generalize hn:l.length=n at*
 have HL:=zk hn
 clear hn
 go_enter Tryz.func133,Tryz.ntmps133
 go_wp2_with fail
 go_loopw [9] (fun i wr=>∃k:Nat,k≤n∧i= .int .i64 (k:Int)∧Hid (alB S l=alB S (l.drop k))∧Hid (Below w.heap.size w wr)) (fun i _=>n-(intOf i).toNat)
 case atStart=>exact⟨0,Nat.zero_le _,rfl,rfl,Below.refl _ _⟩
 case round=>
  obtain⟨k,hk,rfl,hA,hB⟩:=hrel
  by_cases hlt:k<n
  ·obtain⟨s,hs⟩:∃s,l[k]? =some s:=⟨l[k]'(by have:=zq HL;omega),List.getElem?_eq_getElem _⟩
   obtain⟨hkl,hke⟩:=List.getElem?_eq_some_iff.1 hs
   have hd:l.drop k=s::l.drop (k+1):=by rw[List.drop_eq_getElem_cons hkl,hke]
   obtain⟨a',c',e',-,-,h3⟩:=(zq HV).later (zq hB)
   injection e' with e1 e2 e3
   subst e1;subst e3
   obtain⟨g,off,x2,k2,rfl,hg,q0,q1,q2,hr⟩:=h3 k s hs
   rw[Nat.mul_comm 3 k]at q0 q1 q2
   have CO:=zk (fun W (bW:Below wr.heap.size wr W)=>ofT_l gs N k2 x2 S s W (BtV.kept (zq HS) (((zq hB).trans (bW.mono (zq hB).size)).block gs hgl)) (hr.later bW (Nat.le_refl _)) (zq HK s (List.mem_of_getElem? hs)) hN)
   have hcons:alB S (s::l.drop (k+1))=(syB S s&&alB S (l.drop (k+1))):=by unfold alB;rw[List.all_cons]
   cases hb:syB S s with
   |false=>
    have FIN:Hid (alB S l=false):=by show _=_;rw[zq hA,hd,hcons,hb];rfl
    rw[hb]at CO
    have HB:=hB
    clear h3 hs hke hd hcons hb hr hA hB e2
    generalize s.2.1.length=sl at*
    generalize s.2.2=sn at*
    generalize s.1=sk at*
    go_wp2_with fail
    refine(zq CO _ (Below.new1 _)).mono ?_
    rintro e w1 ⟨rfl,b1⟩
    have FB:=zk ((zq HB).trans ((Xj (Below.new1 _) b1).mono (zq HB).size))
    clear CO b1
    go_wp2_with fail
    go_ret
    exact⟨ret_bool (zq FIN).symm,zq FB⟩
   |true=>
    have NXT:Hid (alB S l=alB S (l.drop (k+1))):=by show _=_;rw[zq hA,hd,hcons,hb];rfl
    rw[hb]at CO
    have HB:=hB
    clear h3 hs hke hd hcons hb hr hA hB e2
    generalize s.2.1.length=sl at*
    generalize s.2.2=sn at*
    generalize s.1=sk at*
    go_wp2_with fail
    refine(zq CO _ (Below.new1 _)).mono ?_
    rintro e w1 ⟨rfl,b1⟩
    have FB:=zk ((zq HB).trans ((Xj (Below.new1 _) b1).mono (zq HB).size))
    clear CO b1
    go_wp2_with fail
    go_roundw
    case rel=>exact⟨k+1,by omega,by simp,NXT,FB⟩
    case measure=>simp[intOf];omega
  ·obtain rfl:k=n:=by omega
   have FIN:Hid (alB S l=true):=by
    show _=_
    rw[zq hA,List.drop_eq_nil_of_le (by rw[zq HL];exact Nat.le_refl _)]
    rfl
   go_wp2_with fail
   go_ret
   exact⟨ret_bool (zq FIN).symm,zq hB⟩
end Go.Proofs.YtcblkmlcbedomaaGreatDoor.Rc
namespace Go.Proofs.YtcblkmlcbedomaaGreatDoor.K
open Go.RowKit Go.Proofs.YtcblkmlcbedomaaGreatDoor.F Go.Proofs.YtcblkmlcbedomaaGreatDoor.Nl
theorem intsT_info:(Tryz.prog.info? 26).map (fun i=>(i.zero,i.size,i.bytes))=some (some (.slice none 0 0),1,24):=by kernel_rfl
theorem mk_rows (n:Nat) (hn:n≤900000):∃M:Array Value,M.toList=List.replicate n (.slice none 0 0)∧∀W:World,(Instr.makeSlice 60 (.int .i64 (n:Int)) (.int .i64 (n:Int))).run Tryz.prog W= .ok (.slice (some ⟨W.heap.size,0,none⟩) n n) (W.alloc (.cells M 26)):=by
 obtain⟨ti,hi0,hz0,hz1,hzb⟩:=infoT intsT_info
 refine⟨madeCells #[.slice none 0 0] (n*1),?_,fun W=> ?_⟩
 ·apply List.ext_getElem?
  intro j
  rw[Nat.mul_one]
  by_cases hj:j<n
  ·simp[madeCells,hj,Nat.mod_one]
  ·simp[madeCells,hj]
 ·have:=run_make (P:=Tryz.prog) W 60 26 ti _ Tryz.underlying60 hi0 hz0 .i64 .i64 (n:Int) (n:Int) (by omega) (by omega) (by rw[hzb];omega) (by omega)
  rw[hz1]at this
  exact this
def Tb (w:World) (g n:Nat) (f:Nat→Value):Prop:=∃C:Array Value,w.heap[g]? =some (.cells C 26)∧C.size=n∧∀m,m<n→C[m]? =some (f m)
def upF {α:Type} (f:Nat→α) (i:Nat) (v:α):Nat→α:=fun m=>if m=i then v else f m
theorem XK {α:Type} (f:Nat→α) (i:Nat) (v:α):upF f i v i=v:=if_pos rfl
theorem XY {α:Type} (f:Nat→α) {i m:Nat} (v:α) (h:m≠i):upF f i v m=f m:=if_neg h
theorem Tb.at {w:World} {g n:Nat} {f:Nat→Value} (h:Tb w g n f) {m:Nat} (hm:m<n):w.cell? ⟨g,m,none⟩=some (f m):=by
 obtain⟨C,h1,-,h3⟩:=h
 simp[World.cell?,h1,h3 m hm]
theorem Tb.fz {w:World} {g n:Nat} {f:Nat→Value} (h:Tb w g n f) (m:Nat):w.frozen? ⟨g,m,none⟩=false:=by
 obtain⟨C,h1,-,-⟩:=h
 simp[World.frozen?,h1]
theorem Tb.keep {w w':World} {g n:Nat} {f:Nat→Value} (h:Tb w g n f) (e:w'.heap[g]? =w.heap[g]?):Tb w' g n f:=by
 obtain⟨C,h1,h2,h3⟩:=h
 exact⟨C,e.trans h1,h2,h3⟩
theorem Tb.lt {w:World} {g n:Nat} {f:Nat→Value} (h:Tb w g n f):g<w.heap.size:=by
 obtain⟨C,h1,-,-⟩:=h
 exact(Array.getElem?_eq_some_iff.1 h1).1
theorem Tb.set {w:World} {g n:Nat} {f:Nat→Value} (h:Tb w g n f) (i:Nat) (v:Value):Tb (w.setCell ⟨g,i,none⟩ v) g n (upF f i v):=by
 obtain⟨C,h1,h2,h3⟩:=h
 refine⟨C.setIfInBounds i v,heap_setCell_same w g i _ _ v h1,by simp[h2],fun m hm=> ?_⟩
 unfold upF
 by_cases e:m=i
 ·subst e
  rw[if_pos rfl,Array.getElem?_setIfInBounds_self_of_lt (by omega)]
 ·rw[if_neg e,Array.getElem?_setIfInBounds_ne (fun c=>e c.symm)]
  exact h3 m hm
theorem inv_typ {w:World} {B:Nat} {v:Value} {l:List Int} (h:InV w B v l) {g:Nat} (hg:v.ownBlock=some g):∃cs,w.heap[g]? =some (.cells cs 3):=by
 rcases h.2 with ⟨rfl,-⟩|⟨g',cap,cur,rfl,hb,hk,-⟩
 ·cases hg
 ·cases hg;exact⟨cur,hk⟩
theorem inv_ne {w:World} {B g:Nat} {v:Value} {l:List Int} {cs:Array Value} {t:TypeId} (h:InV w B v l) (hg:w.heap[g]? =some (.cells cs t)) (ht:t≠3):v.ownBlock≠some g:=by
 intro e
 obtain⟨cs',h'⟩:=inv_typ h e
 rw[hg]at h'
 injection h' with h'
 injection h' with _ h2
 exact ht h2
theorem Tb.ne {w:World} {B g n:Nat} {f:Nat→Value} {v:Value} {l:List Int} (hT:Tb w g n f) (h:InV w B v l):v.ownBlock≠some g:=by
 obtain⟨C,h1,-,-⟩:=hT
 exact inv_ne h h1 (by decide)
theorem inv_nsB {w:World} {B B':Nat} {v:Value} {l:List Int} (h:InV w B v l) (hB:w.heap.size≤B'):NsB B' w v l:=by
 rcases id h.2 with ⟨rfl,h0⟩|⟨g,cap,cur,rfl,hb,hg,hn,hm,hsz,ht⟩
 ·exact⟨none,0,by rw[h0],by omega,Nat.zero_le _,fun j x hj=>by
   have:=List.eq_nil_of_length_eq_zero h0;subst this;simp at hj⟩
 ·refine⟨_,cap,rfl,hn,hm,fun j x hj=>⟨g,0,rfl,?_,?_⟩⟩
  ·have:=(Array.getElem?_eq_some_iff.1 hg).1;omega
  ·have hl:=(List.getElem?_eq_some_iff.1 hj).1
   have:=World.ownsRow.cellAt h j (by omega)
   rw[List.getElem?_map,hj]at this
   rw[Nat.zero_add];exact this
theorem rangeD (n:Nat) (L:Nat→List Int) (m:Nat):((List.range n).map L).getD m []=if m<n then L m else []:=by
 rw[List.getD_eq_getElem?_getD,List.getElem?_map]
 by_cases h:m<n
 ·rw[if_pos h,List.getElem?_range h];rfl
 ·rw[if_neg h,List.getElem?_eq_none (by simpa using h)];rfl
end Go.Proofs.YtcblkmlcbedomaaGreatDoor.K
namespace Go.Proofs.YtcblkmlcbedomaaGreatDoor.Rc
open Go.RowKit Go.Maps Go.Proofs.YtcblkmlcbedomaaGreatDoor.F Go.Proofs.YtcblkmlcbedomaaGreatDoor.Nl Go.Proofs.YtcblkmlcbedomaaGreatDoor.K
theorem ixT_l (gs N c:Nat) (a:Option Addr) (S:List Bool) (A:List (List SY)) (w:World) (hS:BtV w gs N S) (h:AltM w (.slice a A.length c) A) (hk:∀l∈A,∀s∈l,s.1=0∨s.1=1∨(s.1=2∧0≤s.2.2∧s.2.2<(N:Int))) (hN:N≤1000000) (hl:A.length≤1000000) (h40:∀l∈A,l.length≤1000000):
  Calls Tryz.prog 167 #[.slice a A.length c,.func (.func 133) #[.slice (some ⟨gs,0,none⟩) N N] #[]] w fun e w'=>∃r:Int,e= .returned (.int .i64 r)∧(0≤r↔soB S A=true)∧Below w.heap.size w w':=by
 have hc:A.length≤c∧c≤maxLen:=by obtain⟨a',c',e,h1,h2⟩:=h.form;injection e with e1 e2 e3;subst e3;exact⟨h1,h2⟩
 obtain⟨hc1,hc2⟩:=hc
 unfold maxLen at hc2
 have hgl:=(XZ hS (rfl:(Value.slice (some ⟨gs,0,none⟩) N N).ownBlock=some gs)).2
 have HV:=zk h
 have HS:=zk hS
 have HK:=zk hk
 have H40:=zk h40
 clear h hS hk h40
 generalize hn:A.length=n at*
 have HL:=zk hn
 clear hn
 go_enter Tryz.func167,Tryz.ntmps167
 go_wp2_with fail
 go_loopw [8] (fun i wr=>∃k:Nat,k≤n∧i= .int .i64 (k:Int)∧Hid (soB S A=soB S (A.drop k))∧Hid (Below w.heap.size w wr)) (fun i _=>n-(intOf i).toNat)
 case atStart=>exact⟨0,Nat.zero_le _,rfl,rfl,Below.refl _ _⟩
 case round=>
  obtain⟨k,hk,rfl,hA,hB⟩:=hrel
  by_cases hlt:k<n
  ·have HV1:=(zq HV).later (zq hB)
   rw[←zq HL]at HV1
   obtain⟨g,off,x,cc,l,rfl,hg,hcell,hd,hsy⟩:=HV1.at k (by rw[zq HL];exact hlt)
   have hlm:l∈A:=List.mem_of_mem_drop (i:=k) (by rw[hd];exact List.mem_cons_self)
   have CO:=zk (fun W (bW:Below wr.heap.size wr W)=>allT_l gs N cc x S l W (BtV.kept (zq HS) (((zq hB).trans (bW.mono (zq hB).size)).block gs hgl)) (hsy.later bW) (zq HK l hlm) hN (zq H40 l hlm))
   have hcons:soB S (l::A.drop (k+1))=(alB S l||soB S (A.drop (k+1))):=by unfold soB;rw[List.any_cons]
   cases hb:alB S l with
   |true=>
    have FIN:Hid (soB S A=true):=by show _=_;rw[zq hA,hd,hcons,hb];rfl
    rw[hb]at CO
    have HB:=hB
    clear HV1 hd hcons hb hsy hA hB hlm
    generalize l.length=ll at*
    go_wp2_with fail
    refine(zq CO _ (Below.refl _ _)).mono ?_
    rintro e w1 ⟨rfl,b1⟩
    have FB:=zk ((zq HB).trans (b1.mono (zq HB).size))
    clear CO b1
    go_wp2_with fail
    go_ret
    exact⟨k,rfl,⟨fun _=>zq FIN,fun _=>by omega⟩,zq FB⟩
   |false=>
    have NXT:Hid (soB S A=soB S (A.drop (k+1))):=by show _=_;rw[zq hA,hd,hcons,hb];rfl
    rw[hb]at CO
    have HB:=hB
    clear HV1 hd hcons hb hsy hA hB hlm
    generalize l.length=ll at*
    go_wp2_with fail
    refine(zq CO _ (Below.refl _ _)).mono ?_
    rintro e w1 ⟨rfl,b1⟩
    have FB:=zk ((zq HB).trans (b1.mono (zq HB).size))
    clear CO b1
    go_wp2_with fail
    go_roundw
    case rel=>exact⟨k+1,by omega,by simp,NXT,FB⟩
    case measure=>simp[intOf];omega
  ·obtain rfl:k=n:=by omega
   have FIN:Hid (soB S A=false):=by
    show _=_
    rw[zq hA,List.drop_eq_nil_of_le (by rw[zq HL];exact Nat.le_refl _)]
    rfl
   go_wp2_with fail
   go_ret
   exact⟨-1,rfl,⟨fun h=>absurd h (by decide),fun h=>by rw[zq FIN]at h;cases h⟩,zq hB⟩
theorem contT_l (gs N c:Nat) (a:Option Addr) (S:List Bool) (A:List (List SY)) (w:World) (hS:BtV w gs N S) (h:AltM w (.slice a A.length c) A) (hk:∀l∈A,∀s∈l,s.1=0∨s.1=1∨(s.1=2∧0≤s.2.2∧s.2.2<(N:Int))) (hN:N≤1000000) (hl:A.length≤1000000) (h40:∀l∈A,l.length≤1000000):
  Calls Tryz.prog 122 #[.slice a A.length c,.func (.func 133) #[.slice (some ⟨gs,0,none⟩) N N] #[]] w fun e w'=>e= .returned (.bool (soB S A))∧Below w.heap.size w w':=by
 have CI:=zk (ixT_l gs N c a S A w hS h hk hN hl h40)
 clear h hS hk h40 hl
 generalize soB S A=b at*
 generalize A.length=n at*
 go_enter Tryz.func122,Tryz.ntmps122
 go_wp2_with fail
 refine(zq CI).mono ?_
 rintro e w1 ⟨r,rfl,hr,b1⟩
 have e:decide (0≤r)=b:=by
  cases b with
  |true=>exact decide_eq_true (hr.2 rfl)
  |false=>exact decide_eq_false (fun c=>by have:=hr.1 c;cases this)
 have HE:=zk e
 have HB:=zk b1
 clear CI hr b1 e
 go_wp2_with fail
 go_ret
 exact⟨ret_bool (zq HE),zq HB⟩
theorem someT_l (gs N c:Nat) (a:Option Addr) (S:List Bool) (A:List (List SY)) (w:World) (hS:BtV w gs N S) (h:AltM w (.slice a A.length c) A) (hk:∀l∈A,∀s∈l,s.1=0∨s.1=1∨(s.1=2∧0≤s.2.2∧s.2.2<(N:Int))) (hN:N≤1000000) (hl:A.length≤1000000) (h40:∀l∈A,l.length≤1000000):
  Calls Tryz.prog 92 #[.slice (some ⟨gs,0,none⟩) N N,.slice a A.length c] w fun e w'=>e= .returned (.bool (soB S A))∧Below w.heap.size w w':=by
 have CI:=zk (fun W (bW:Below w.heap.size w W)=>contT_l gs N c a S A W (BtV.kept hS (bW.block gs (XZ hS (rfl:(Value.slice (some ⟨gs,0,none⟩) N N).ownBlock=some gs)).2)) (h.later bW) hk hN hl h40)
 clear h hS hk h40 hl
 generalize soB S A=b at*
 generalize A.length=n at*
 go_enter Tryz.func92,Tryz.ntmps92
 go_wp2_with fail
 refine(zq CI _ (Below.refl _ _)).mono ?_
 rintro e w1 ⟨rfl,b1⟩
 have HB:=zk b1
 clear CI b1
 go_wp2_with fail
 go_ret
 exact⟨rfl,zq HB⟩
theorem allOf_l (a:Option Addr) (n c:Nat) (w:World) (hn:n≤1000):
  Calls Tryz.prog 90 #[.slice a n c] w fun e w'=>∃v,e= .returned v∧IR w' w.heap.size v ((List.range n).map fun i:Nat=>(i:Int))∧Below w.heap.size w w':=by
 go_enter Tryz.func90,Tryz.ntmps90
 go_wp2_with fail
 go_loopw [3,7] (fun o i wr=>∃k:Nat,k≤n∧i= .int .i64 (k:Int)∧Hid (IR wr w.heap.size o ((List.range k).map fun i:Nat=>(i:Int)))∧Hid (Below w.heap.size w wr)) (fun _ i _=>n-(intOf i).toNat)
 case atStart=>exact⟨0,Nat.zero_le _,rfl,IR.nil _ _,Below.refl _ _⟩
 case round=>
  obtain⟨k,hk,rfl,hI,hB⟩:=hrel
  have hww:=(zq hB).size
  by_cases hlt:k<n
  ·obtain⟨v',w',hap,own',gr',-⟩:=XV (World.ownsRow.alloc (zq hI) (.cells #[.int .i64 (k:Int)] 3)) (by simp;omega) (g:=wr.heap.size) (heap_alloc_new wr (.cells #[.int .i64 (k:Int)] 3)) (by simp;omega)
   have HI2:Hid (IR w' w.heap.size v' ((List.range (k+1)).map fun i:Nat=>(i:Int))):=by
    show World.ownsRow _ _ _ _ _ _ _
    rw[List.range_succ,List.map_append,List.map_cons,List.map_nil,List.length_append,List.length_singleton,List.map_append];exact own'
   have HB2:=zk (((zq hB).alloc hww (.cells #[.int .i64 (k:Int)] 3)).grown gr' (by simp;omega) (fun j hj=>((zq hI).lt j hj).1))
   clear hI hB own' gr'
   go_wp2_with (at_builtin;refine app_runk rfl _ _ 26 26 rfl rfl _ _ rfl rfl hap ?_)
   exact⟨⟨k+1,by omega,by simp,HI2,HB2⟩,by simp[intOf];omega⟩
  ·obtain rfl:k=n:=by omega
   go_wp2_with fail
   go_ret
   exact⟨_,rfl,zq hI,zq hB⟩
structure UI (w:World) (B gu n:Nat) (fo:Nat→Value) (O:Nat→List Int):Prop where
 to:Tb w gu n fo
 lo:B≤gu
 ov:∀m,InV w B (fo m) (O m)
 oo:∀m m' g,m≠m'→(fo m).ownBlock=some g→(fo m').ownBlock≠some g
theorem UI.later {w w':World} {B gu n:Nat} {fo:Nat→Value} {O:Nat→List Int} (h:UI w B gu n fo O) (k:Below w.heap.size w w'):UI w' B gu n fo O:=
 ⟨h.to.keep (k.block _ h.to.lt),h.lo,fun m=>own_lat k (h.ov m),h.oo⟩
theorem UI.of {w:World} {B gu n m:Nat} {fo:Nat→Value} {O:Nat→List Int} (h:UI w B gu n fo O) (x:Int) (hs:(O m).length≤1000000) {g:Nat} (hg:w.heap[g]? =some (.cells #[.int .i64 x] 3)):
  ∃a' n' c' w',(Builtin.append_ #[26,26] 26 #[fo m,.slice (some ⟨g,0,none⟩) 1 1]).run Tryz.prog w= .ok (.slice a' n' c') w'∧Tb w' gu n fo∧
   UI (w'.setCell ⟨gu,m,none⟩ (.slice a' n' c')) B gu n (upF fo m (.slice a' n' c')) (upF O m (O m++[x]))∧Below B w (w'.setCell ⟨gu,m,none⟩ (.slice a' n' c'))∧
   ∀gg,gg<w.heap.size→(∀m',(fo m').ownBlock≠some gg)→gg≠gu→(w'.setCell ⟨gu,m,none⟩ (.slice a' n' c')).heap[gg]? =w.heap[gg]?∧∀m',(upF fo m (.slice a' n' c') m').ownBlock≠some gg:=by
 have hB:B≤w.heap.size:=Nat.le_trans h.lo (Nat.le_of_lt h.to.lt)
 obtain⟨v',w',hr,own,gr,hnew⟩:=XV (h.ov m) hB hg hs
 have T1:Tb w' gu n fo:=h.to.keep (gr.block _ h.to.lt (fun e=>h.to.ne (h.ov m) e.symm))
 have B1:Below B w w':=(Below.refl B w).grown gr hB (fun k hk=>(XZ (h.ov m) hk).1)
 have hne:∀k,v'.ownBlock=some k→(fo m).ownBlock=some k∨w.heap.size≤k:=fun k hk=>by
  rcases hnew with e|e
  ·exact .inl (by rw[←e];exact hk)
  ·rw[e]at hk;injection hk with hk;exact .inr (by omega)
 have hv':InV w' B v' (O m++[x]):=by
  unfold InV
  rw[List.length_append,List.map_append]
  exact own
 obtain⟨a',n',c',rfl⟩:=own_form3 hv'
 have keepO:∀m',m'≠m→InV w' B (fo m') (O m'):=fun m' hm=>ju (h.ov m') (fun k hk=>gr.block k (XZ (h.ov m') hk).2 (fun e=>h.oo m m' k (fun c=>hm c.symm) e.symm hk))
 have keep:∀{u:Value} {y:List Int},InV w' B u y→InV (w'.setCell ⟨gu,m,none⟩ (.slice a' n' c')) B u y:=fun hu=>ju hu (fun k hk=>heap_setCell_other _ _ _ _ (fun e=>T1.ne hu (by rw[hk,show k=gu from e])))
 refine⟨a',n',c',w',hr,T1,⟨T1.set m _,h.lo,fun m'=> ?_,fun a b k hab ha=> ?_⟩,B1.setCell h.lo _,fun gg h1 h2 h3=>⟨(heap_setCell_other _ _ _ _ (show gg≠gu from h3)).trans (gr.block gg h1 (fun e=>h2 m e.symm)),fun m'=> ?_⟩⟩
 ·by_cases e:m'=m
  ·subst e
   rw[XK,XK]
   exact keep hv'
  ·rw[XY _ _ e,XY _ _ e]
   exact keep (keepO m' e)
 ·by_cases ea:a=m
  ·subst ea
   rw[XK]at ha
   rw[XY _ _ (fun c=>hab c.symm)]
   rcases hne k ha with c|c
   ·exact h.oo _ _ _ hab c
   ·intro d
    have:=(XZ (h.ov b) d).2
    omega
  ·rw[XY _ _ ea]at ha
   by_cases eb:b=m
   ·subst eb
    rw[XK]
    intro d
    rcases hne k d with c|c
    ·exact h.oo _ _ _ hab ha c
    ·have:=(XZ (h.ov a) ha).2
     omega
   ·rw[XY _ _ eb]
    exact h.oo _ _ _ hab ha
 ·by_cases e:m'=m
  ·subst e
   rw[XK]
   intro c
   rcases hne gg c with d|d
   ·exact h2 _ d
   ·omega
  ·rw[XY _ _ e];exact h2 m'
structure PU (P:List PRD) (O:Nat→List Int) (k:Nat) (L:List Int) (j:Nat):Prop where
 mem:∀(m:Nat) (x:Int),x∈O m↔(∃q:Nat,x=(q:Int)∧q<k∧(m:Int)∈symsN P q)∨(x=(k:Int)∧(m:Int)∈L.take j)
 len:∀m,(O m).length≤320*k+j
theorem PU.zero (P:List PRD):PU P (fun _=> []) 0 [] 0:=
 ⟨fun m x=>⟨fun h=>(by cases h),fun h=>by rcases h with ⟨q,-,h,-⟩|⟨-,h⟩;exact absurd h (Nat.not_lt_zero _);simp at h⟩,fun m=>Nat.zero_le _⟩
theorem PU.row {P:List PRD} {O:Nat→List Int} {k:Nat} (h:PU P O k [] 0) (L:List Int):PU P O k L 0:=
 ⟨fun m x=>by rw[h.mem m x,List.take_zero,List.take_zero],h.len⟩
theorem PU.step {P:List PRD} {O:Nat→List Int} {k j m:Nat} {L:List Int} (h:PU P O k L j) (hj:L[j]? =some (m:Int)):PU P (upF O m (O m++[(k:Int)])) k L (j+1):=by
 obtain⟨hlt,he⟩:=List.getElem?_eq_some_iff.1 hj
 have ht:L.take (j+1)=L.take j++[(m:Int)]:=by rw[List.take_succ_eq_append_getElem hlt,he]
 refine⟨fun m' x=> ?_,fun m'=> ?_⟩
 ·by_cases e:m'=m
  ·subst e
   rw[XK,List.mem_append,h.mem m' x,ht]
   constructor
   ·rintro((a|⟨a,b⟩)|a)
    ·exact .inl a
    ·exact .inr ⟨a,List.mem_append_left _ b⟩
    ·simp at a;exact .inr ⟨a,by simp⟩
   ·rintro(a|⟨a,-⟩)
    ·exact .inl (.inl a)
    ·exact .inr (by simp[a])
  ·rw[XY _ _ e,h.mem m' x,ht]
   have:((m':Int)∈L.take j++[(m:Int)])↔(m':Int)∈L.take j:=by
    rw[List.mem_append]
    exact⟨fun a=>a.elim id (fun a=>absurd (by simpa using a:(m':Int)=(m:Int)) (fun c=>e (by omega))),.inl⟩
   rw[this]
 ·have:=h.len m'
  by_cases e:m'=m
  ·subst e;rw[XK];simp;omega
  ·rw[XY _ _ e];omega
theorem PU.next {P:List PRD} {O:Nat→List Int} {k:Nat} {L:List Int} (h:PU P O k L L.length) (hL:symsN P k=L) (hl:L.length≤320):PU P O (k+1) [] 0:=by
 refine⟨fun m x=> ?_,fun m=>by have:=h.len m;omega⟩
 rw[h.mem m x,List.take_length,List.take_zero,←hL]
 constructor
 ·rintro(⟨q,e,hq,hm⟩|⟨e,hm⟩)
  ·exact .inl ⟨q,e,by omega,hm⟩
  ·exact .inl ⟨k,e,by omega,hm⟩
 ·rintro(⟨q,e,hq,hm⟩|⟨-,c⟩)
  ·by_cases c:q=k
   ·subst c;exact .inr ⟨e,hm⟩
   ·exact .inl ⟨q,e,by omega,hm⟩
  ·cases c
structure UJ (w:World) (P:List PRD) (B gu n k:Nat) (aL:Option Addr) (L:List Int) (j:Nat) (wr:World):Prop where
 bel:Below B w wr
 st:∃fo O,UI wr B gu n fo O∧PU P O k L j∧∀i x,L[i]? =some x→∃gg,aL=some ⟨gg,0,none⟩∧gg<wr.heap.size∧gg≠gu∧(∀m,(fo m).ownBlock≠some gg)∧wr.cell? ⟨gg,i,none⟩=some (.int .i64 x)
def UW (w:World) (P:List PRD) (B gu n k:Nat) (wr:World):Prop:=Below B w wr∧∃fo O,UI wr B gu n fo O∧PU P O k [] 0
theorem UW.row {w:World} {P:List PRD} {B gu n k:Nat} {wr w1:World} {aL:Option Addr} {nL cL:Nat} {L:List Int} (h:UW w P B gu n k wr) (hb:Below wr.heap.size wr w1) (hL:IR w1 wr.heap.size (.slice aL nL cL) L) (hB:B≤wr.heap.size):UJ w P B gu n k aL L 0 w1:=by
 obtain⟨h0,fo,O,h1,h2⟩:=h
 refine⟨h0.trans (hb.mono hB),fo,O,h1.later hb,h2.row L,fun i x hi=> ?_⟩
 have hil:=(List.getElem?_eq_some_iff.1 hi).1
 rcases id hL.2 with ⟨e,h0⟩|⟨gg,cap,cur,e,hb2,hk,-⟩
 ·omega
 ·injection e with e1 e2 e3
  subst e1;subst e2
  refine⟨gg,rfl,(Array.getElem?_eq_some_iff.1 hk).1,fun e=>by have:=h1.to.lt;omega,fun m e=>by have:=(XZ (h1.ov m) e).2;omega,?_⟩
  have:=World.ownsRow.cellAt hL i (by omega)
  rw[List.getElem?_map,hi]at this
  exact this
theorem UJ.put {w:World} {P:List PRD} {B gu n k j m:Nat} {aL:Option Addr} {L:List Int} {wr:World} (h:Hid (UJ w P B gu n k aL L j wr)) (hj:L[j]? =some (m:Int)) (hm:m<n) (hk:k≤1000) (hj2:j≤1000) (hB:B≤wr.heap.size):
  ∃au nu cu,wr.cell? ⟨gu,m,none⟩=some (.slice au nu cu)∧(wr.alloc (.cells #[.int .i64 (k:Int)] 3)).cell? ⟨gu,m,none⟩=some (.slice au nu cu)∧(∃gg,aL=some ⟨gg,0,none⟩∧wr.cell? ⟨gg,j,none⟩=some (.int .i64 (m:Int)))∧gu<wr.heap.size∧
   ∃a' n' c' w',(Builtin.append_ #[26,26] 26 #[.slice au nu cu,.slice (some ⟨wr.heap.size,0,none⟩) 1 1]).run Tryz.prog (wr.alloc (.cells #[.int .i64 (k:Int)] 3))= .ok (.slice a' n' c') w'∧w'.cell? ⟨gu,m,none⟩=some (.slice au nu cu)∧w'.frozen? ⟨gu,m,none⟩=false∧
    Hid (UJ w P B gu n k aL L (j+1) (w'.setCell ⟨gu,m,none⟩ (.slice a' n' c'))):=by
 obtain⟨h0,fo,O,h1,h2,h3⟩:=zq h
 obtain⟨au,nu,cu,eu⟩:=own_form3 (h1.ov m)
 have bn:Below wr.heap.size wr (wr.alloc (.cells #[.int .i64 (k:Int)] 3)):=Below.new1 _
 have hX:=h1.later bn
 obtain⟨a',n',c',w',hr,T1,K1,B2,far⟩:=hX.of (m:=m) (k:Int) (by have:=h2.len m;omega) (heap_alloc_new wr _)
 rw[eu]at hr
 obtain⟨gg,e1,-,-,-,e2⟩:=h3 j _ hj
 refine⟨au,nu,cu,by rw[←eu];exact h1.to.at hm,by rw[←eu];exact hX.to.at hm,⟨gg,e1,e2⟩,h1.to.lt,a',n',c',w',hr,by rw[←eu];exact T1.at hm,T1.fz m,⟨(h0.trans (bn.mono hB)).trans B2,_,_,K1,h2.step hj,fun i x hi=> ?_⟩⟩
 obtain⟨g2,f1,f2,f3,f4,f5⟩:=h3 i x hi
 obtain⟨k1,k2⟩:=far g2 (by simp;omega) f4 f3
 have s:=(B2.size)
 simp only[World.size_alloc]at s
 exact⟨g2,f1,by omega,f3,k2,(World.cell?_of_block (a:=⟨g2,i,none⟩) (k1.trans (bn.block g2 f2))).trans f5⟩
theorem UJ.done {w:World} {P:List PRD} {B gu n k:Nat} {aL:Option Addr} {L:List Int} {wr:World} (h:Hid (UJ w P B gu n k aL L L.length wr)) (hL:symsN P k=L) (hl:L.length≤320):Hid (UW w P B gu n (k+1) wr):=by
 obtain⟨h0,fo,O,h1,h2,-⟩:=zq h
 exact⟨h0,fo,O,h1,h2.next hL hl⟩
def UsM (s:Nat) (w:World) (gu n:Nat) (O:List (List Int)):Prop:=s≤gu∧gu<w.heap.size∧∀m:Nat,m<n→∃v,w.cell? ⟨gu,m,none⟩=some v∧Ns w v (O.getD m [])∧∀a n c,v= .slice a n c→∀g off,a=some ⟨g,off,none⟩→s≤g∧g<w.heap.size
theorem usersOf_l (aP:Option Addr) (cP:Nat) (P:List PRD) (w:World) (h:PrM w (.slice aP P.length cP) P) (hg:gramB P=true):
  Calls Tryz.prog 89 #[.slice aP P.length cP] w fun e w'=>∃gu O,e= .returned (.slice (some ⟨gu,0,none⟩) P.length P.length)∧UsM w.heap.size w' gu P.length O∧
   (∀m:Nat,m<P.length→(O.getD m []).length≤20000∧∀x,x∈O.getD m []↔∃q:Nat,x=(q:Int)∧q<P.length∧(m:Int)∈symsN P q)∧Below w.heap.size w w':=by
 have h60:=(Xv hg).2.1
 obtain⟨a0,c0,e0,hc1,hc2,-⟩:=id h
 injection e0 with e1 e2 e3
 subst e1;subst e3
 unfold maxLen at hc2
 obtain⟨M,hM,hr⟩:=mk_rows P.length (by omega)
 have HP:=zk h
 have HG:=zk hg
 have hs0:(w.alloc (.cells M 26)).heap.size=w.heap.size+1:=by simp
 have I0:Hid (UW w P w.heap.size w.heap.size P.length 0 (w.alloc (.cells M 26))):=by
  refine⟨Below.new1 _,fun _=> .slice none 0 0,fun _=> [],⟨⟨M,heap_alloc_new w _,by rw[←Array.length_toList,hM,List.length_replicate],fun m hm=> ?_⟩,Nat.le_refl _,fun m=>InV.nil _ _,fun m m' g hm e=>(by cases e)⟩,PU.zero P⟩
  rw[←Array.getElem?_toList,hM,List.getElem?_replicate,if_pos hm]
 clear h hg e2
 generalize hNN:P.length=N at*
 have HN:=zk hNN
 clear hNN
 go_enter Tryz.func89,Tryz.ntmps89
 go_wp2_with fail
 go_loopw [13] (fun i wr=>∃k:Nat,k≤N∧i= .int .i64 (k:Int)∧Hid (UW w P w.heap.size w.heap.size N k wr)) (fun i _=>N-(intOf i).toNat)
 case atStart=>exact⟨0,Nat.zero_le _,rfl,I0⟩
 case round=>
  clear I0 hr
  obtain⟨k,hk,rfl,hI⟩:=hrel
  by_cases hlt:k<N
  ·obtain⟨p,hp⟩:∃p,P[k]? =some p:=⟨P[k]'(by have:=zq HN;omega),List.getElem?_eq_getElem _⟩
   have hpm:=List.mem_of_getElem? hp
   obtain⟨hs320,hsr⟩:=symsP_rng (zq HG) hpm
   have hbw:=(zq hI).1
   obtain⟨a',c',e',-,-,h3'⟩:=(zq HP).later hbw
   injection e' with e1 e2 e3
   subst e1;subst e3
   obtain⟨g,off,u,u2,rfl,hgl,q0,q1,q2,hA,hN2⟩:=h3' k p hp
   obtain⟨x0,k0,rfl,-⟩:=id hA
   obtain⟨x2,k2,rfl,-⟩:=id hN2
   rw[Nat.mul_comm 3 k]at q0 q1 q2
   have CS:=zk (fun X (bX:Below wr.heap.size wr X)=>symbols_l x0 x2 k0 p.2.2.length k2 p.2.1 p.1 X (hA.later bX) ((Xv (zq HG)).2.2.1 p hpm) ((Xv (zq HG)).2.2.2.1 p hpm))
   have HSY:Hid (symsN P k=symsP p):=by show _=_;unfold symsN;rw[hp]
   have HSR:=zk hsr
   have hww:=hbw.size
   clear h3' hA hN2 hp hpm hsr hbw e2
   go_wp2_with fail
   refine(zq CS _ (Below.new1 _)).mono ?_
   rintro e w1 ⟨v1,rfl,own1,b1⟩
   change IR w1 _ v1 (symsP p)at own1
   obtain⟨a1,c1,rfl,t1,t2,-⟩:=inv_nsB (show InV w1 _ v1 (symsP p) from own1) (Nat.le_refl _)
   unfold maxLen at t2
   have J0:Hid (UJ w P w.heap.size w.heap.size N k a1 (symsP p) 0 w1):=(zq hI).row (Xj (Below.new1 _) b1) (own_low own1 (by simp)) hww
   have HS320:=zk hs320
   clear CS own1 b1 hI q0 q1 q2
   generalize hLL:symsP p=L at*
   have HLL:=zk hLL
   have hl320:L.length≤320:=hs320
   clear hLL hs320 HS320
   go_wp2_with fail
   go_loopw [21] (fun i wr=>∃j:Nat,j≤L.length∧i= .int .i64 (j:Int)∧Hid (UJ w P w.heap.size w.heap.size N k a1 L j wr)) (fun i _=>L.length-(intOf i).toNat)
   case atStart=>exact⟨0,Nat.zero_le _,rfl,J0⟩
   case round=>
    clear J0
    obtain⟨j,hj,rfl,hJ⟩:=hrel
    by_cases hlj:j<L.length
    ·have hx:=List.getElem?_eq_getElem hlj
     obtain⟨m,em,hm⟩:=zq HSR _ (List.getElem_mem hlj)
     rw[em]at hx
     rw[zq HN]at hm
     obtain⟨au,nu,cu,z1,z2,⟨gg,rfl,zl⟩,hgu,a2,n2,c2,w2,hap,y1,y2,NX⟩:=UJ.put hJ hx hm (by omega) (by omega) (zq hJ).bel.size
     clear hx em hJ
     go_wp2_with (at_builtin;refine app_runk rfl _ _ 26 26 rfl rfl _ _ rfl rfl hap ?_)
     exact⟨⟨j+1,by omega,by simp,NX⟩,by simp[intOf];omega⟩
    ·obtain rfl:j=L.length:=by omega
     have NX:=UJ.done hJ (by rw[zq HSY]) hl320
     go_wp2_with fail
     exact⟨⟨k+1,by omega,by simp,NX⟩,by simp[intOf];omega⟩
  ·obtain rfl:k=N:=by omega
   obtain⟨hb,fo,O,h1,h2⟩:=zq hI
   have FIN:Hid (UsM w.heap.size wr w.heap.size k ((List.range k).map O)∧(∀m:Nat,m<k→(((List.range k).map O).getD m []).length≤20000∧∀x,x∈((List.range k).map O).getD m []↔∃q:Nat,x=(q:Int)∧q<k∧(m:Int)∈symsN P q)):=by
    refine⟨⟨Nat.le_refl _,h1.to.lt,fun m hm=>⟨fo m,by have:=h1.to.at hm;exact this,by rw[rangeD,if_pos hm];exact Ns.of_own (h1.ov m),fun a n c e gg off ea=>XZ (h1.ov m) (by rw[e,ea];rfl)⟩⟩,fun m hm=> ?_⟩
    rw[rangeD,if_pos hm]
    refine⟨by have:=h2.len m;omega,fun x=> ?_⟩
    rw[h2.mem m x,List.take_zero]
    exact⟨fun a=>a.elim id (fun a=>(by cases a.2)),.inl⟩
   have HB:=zk hb
   clear hb h1 h2 hI
   go_wp2_with fail
   go_ret
   exact⟨w.heap.size,_,rfl,(zq FIN).1,(zq FIN).2,zq HB⟩
structure MkM (w0:World) (P:List PRD) (bl bk bu gs gu N0:Nat) (aP:Option Addr) (cP:Nat) (O:List (List Int)) (k:Nat) (W:World) (T:Int→Bool):Prop where
 bel:Below w0.heap.size w0 W
 box:W.heap[bl]? =some (.cells #[.slice aP P.length cP] 22)
 kbx:W.heap[bk]? =some (.cells #[.slice (some ⟨gs,0,none⟩) P.length P.length] 90)
 ubx:W.heap[bu]? =some (.cells #[.slice (some ⟨gu,0,none⟩) P.length P.length] 60)
 usr:∀m:Nat,m<P.length→∃v,W.cell? ⟨gu,m,none⟩=some v∧Ns W v (O.getD m [])∧(∀a n c,v= .slice a n c→∀g off,a=some ⟨g,off,none⟩→g<N0∧g≠gs)
 go:∃S,BtV W gs P.length S∧TxI P S T∧Xw P.length (bt S)*(P.length+1)+(P.length-Xw P.length (fun i=>T (i:Int)))≤k
theorem ns_keep {w w':World} {v:Value} {l:List Int} (h:Ns w v l) (hs:w.heap.size≤w'.heap.size) (k:∀a n c,v= .slice a n c→∀g off,a=some ⟨g,off,none⟩→w'.heap[g]? =w.heap[g]?):Ns w' v l:=by
 obtain⟨a,c,e,h1,h2,h3⟩:=h
 refine⟨a,c,e,h1,h2,fun j x hj=> ?_⟩
 obtain⟨g,off,ea,hg,hc⟩:=h3 j x hj
 exact⟨g,off,ea,by omega,(World.cell?_of_block (a:=⟨g,off+j,none⟩) (k a _ c e g off ea)).trans hc⟩
theorem MkM.keep {w0:World} {P:List PRD} {bl bk bu gs gu N0:Nat} {aP:Option Addr} {cP:Nat} {O:List (List Int)} {k:Nat} {W W':World} {T:Int→Bool} (h:MkM w0 P bl bk bu gs gu N0 aP cP O k W T) (h0:w0.heap.size≤N0) (h1:bl<N0) (h2:bk<N0) (h3:bu<N0) (h4:gs<N0) (h5:gu<N0) (b:Below N0 W W'):MkM w0 P bl bk bu gs gu N0 aP cP O k W' T:=by
 obtain⟨S,a,x,c⟩:=h.go
 refine⟨h.bel.trans (b.mono h0),(b.block bl h1).trans h.box,(b.block bk h2).trans h.kbx,(b.block bu h3).trans h.ubx,fun m hm=> ?_,S,a.kept (b.block gs h4),x,c⟩
 obtain⟨v,e1,e2,e4⟩:=h.usr m hm
 exact⟨v,(b.cell (p:=⟨gu,m,none⟩) h5).trans e1,ns_keep e2 b.size (fun a n c e g off ea=>b.block g (e4 a n c e g off ea).1),e4⟩
theorem cnt_set {n m:Nat} {S:List Bool} (hm:m<n) (hl:m<S.length) (h:bt S m=false):Xw n (bt S)=Xw n (bt (S.set m true))+1:=
 XW h (by rw[Xo hl,if_pos rfl]) (fun i hi=>by rw[Xo hl,if_neg hi]) n hm
theorem upT_nil (T:Int→Bool):upT T []=T:=by funext x;unfold upT;simp
theorem drB {w:World} {k B:Nat}:Below B w (w.drewN k):=⟨rfl,rfl,rfl,Nat.le_refl _,fun _ _=>rfl⟩
theorem textLook_l (w0:World) (P:List PRD) (bl bk bu gs gu N0:Nat) (aP:Option Addr) (cP k m:Nat) (O:List (List Int)) (W:World) (T:Int→Bool) (hP:PrM w0 (.slice aP P.length cP) P) (hg:gramB P=true) (h:MkM w0 P bl bk bu gs gu N0 aP cP O k W T) (hm:m<P.length) (hT:T (m:Int)=true)
  (hO:∀m:Nat,m<P.length→(O.getD m []).length≤20000∧∀x,x∈O.getD m []↔∃q:Nat,x=(q:Int)∧q<P.length∧(m:Int)∈symsN P q)
  (h0:w0.heap.size≤gs) (h1:bl<N0) (h2:bk<N0) (h3:bu<N0) (h4:gs<N0) (h5:gu<N0) (hN:N0≤W.heap.size) (d1:bl≠gs) (d2:bk≠gs) (d3:bu≠gs) (d4:gu≠gs):
  Calls Tryz.prog 91 #[.int .i64 (m:Int),.pointer (some ⟨bk,0,none⟩),.pointer (some ⟨bl,0,none⟩),.pointer (some ⟨bu,0,none⟩)] W fun e w'=>∃v l k',e= .returned v∧Ns w' v l∧l.length≤100000∧(∀y∈l,∃q:Nat,y=(q:Int)∧q<P.length)∧k'<k∧
   MkM w0 P bl bk bu gs gu N0 aP cP O k' w' (upT (dlT T (m:Int)) l)∧(∀i,N0≤i→i<W.heap.size→w'.heap[i]? =W.heap[i]?)∧Below w0.heap.size W w':=by
 have h60:=(Xv hg).2.1
 obtain⟨p,hp⟩:∃p,P[m]? =some p:=⟨P[m],List.getElem?_eq_getElem hm⟩
 have hpm:=List.mem_of_getElem? hp
 obtain⟨S,hS,hI,hk0⟩:=h.go
 have c0:=Xk h.box
 have c1:=Xk h.kbx
 have c2:=Xk h.ubx
 obtain⟨vu,u1,u2,u4⟩:=h.usr m hm
 have tq:=BR.at hS hm
 have tz:=BR.fz hS m
 have hlS:m<S.length:=by rw[hI.len];exact hm
 obtain⟨a',c',e',-,-,h3'⟩:=hP.later h.bel
 injection e' with e1 e2 e3
 subst e1;subst e3
 obtain⟨g,off,u,u2',rfl,hgl,q0,q1,q2,hA,hN2⟩:=h3' m p hp
 obtain⟨x0,k0,rfl,-⟩:=id hA
 rw[Nat.mul_comm 3 m]at q0 q1 q2
 have CS:=zk (fun X (bX:Below W.heap.size W X)=>someT_l gs P.length k0 x0 S p.1 X (BtV.kept hS (bX.block gs (by omega))) (hA.later bX) (fun l hl s hs=>okS hg hpm hl hs) (by omega) (Nat.le_trans ((Xv hg).2.2.1 p hpm) (by omega)) (fun l hl=>Nat.le_trans ((Xv hg).2.2.2.1 p hpm l hl) (by omega)))
 have HF:=zk h
 have c4:=cntF_le P.length (fun i=>T (i:Int))
 have cd:=cnt_dl T hm hT
 have soI:=soB_iff (S:=S) hp
 -- nothing new
 have NONE:Hid ((bt S m=true∨soB S p.1=false)→∀X,Below W.heap.size W X→∃v l k',(Ending.returned (.slice none 0 0)= .returned v)∧Ns X v l∧l.length≤100000∧(∀y∈l,∃q:Nat,y=(q:Int)∧q<P.length)∧k'<k∧
   MkM w0 P bl bk bu gs gu N0 (some ⟨g,off,none⟩) cP O k' X (upT (dlT T (m:Int)) l)∧(∀i,N0≤i→i<W.heap.size→X.heap[i]? =W.heap[i]?)∧Below w0.heap.size W X):=by
  intro hno X bX
  have bN:Below N0 W X:=bX.mono hN
  refine⟨_,[],Xw P.length (bt S)*(P.length+1)+(P.length-Xw P.length (fun i=>dlT T (m:Int) (i:Int))),rfl,⟨none,0,rfl,Nat.le_refl _,Nat.zero_le _,fun j x hj=>by simp at hj⟩,by simp,fun y hy=>(by cases hy),?_,?_,fun i hi1 hi2=>bX.block i hi2,bX.mono (by omega)⟩
  ·have:=cntF_le P.length (fun i=>dlT T (m:Int) (i:Int));omega
  ·rw[upT_nil]
   have:=h.keep (by omega) h1 h2 h3 h4 h5 bN
   refine⟨this.bel,this.box,this.kbx,this.ubx,this.usr,S,hS.kept (bX.block gs (by omega)),hI.drop ?_ (fun x=>rfl),Nat.le_refl _⟩
   rcases hno with a|a
   ·exact .inl a
   ·exact .inr (fun c=>by rw[soI.2 c]at a;cases a)
 -- it has one
 have YES:Hid (bt S m=false→soB S p.1=true→∀X,Below W.heap.size W X→∃l k',(Ns (X.setCell ⟨gs,m,none⟩ (.bool true)) vu l)∧l.length≤100000∧(∀y∈l,∃q:Nat,y=(q:Int)∧q<P.length)∧k'<k∧
   MkM w0 P bl bk bu gs gu N0 (some ⟨g,off,none⟩) cP O k' (X.setCell ⟨gs,m,none⟩ (.bool true)) (upT (dlT T (m:Int)) l)∧(∀i,N0≤i→i<W.heap.size→(X.setCell ⟨gs,m,none⟩ (.bool true)).heap[i]? =W.heap[i]?)∧Below w0.heap.size W (X.setCell ⟨gs,m,none⟩ (.bool true))):=by
  intro hb hso X bX
  have far:∀i,i<W.heap.size→i≠gs→(X.setCell ⟨gs,m,none⟩ (.bool true)).heap[i]? =W.heap[i]? :=fun i hi hne=>(heap_setCell_other _ _ _ _ hne).trans (bX.block i hi)
  have bel:Below w0.heap.size W (X.setCell ⟨gs,m,none⟩ (.bool true)):=(bX.mono (by omega)).setCell (p:=⟨gs,m,none⟩) h0 _
  obtain⟨ho1,ho2⟩:=hO m hm
  have cS:=cnt_set hm hlS hb
  have cu:=cnt_up (n:=P.length) (O.getD m []) (dlT T (m:Int))
  have c5:=cntF_le P.length (fun i=>upT (dlT T (m:Int)) (O.getD m []) (i:Int))
  refine⟨O.getD m [],Xw P.length (bt (S.set m true))*(P.length+1)+(P.length-Xw P.length (fun i=>upT (dlT T (m:Int)) (O.getD m []) (i:Int))),ns_keep u2 bel.size (fun a n c e gg of ea=>far gg (by have:=(u4 a n c e gg of ea).1;omega) (u4 a n c e gg of ea).2),by omega,fun y hy=> ?_,?_,⟨h.bel.trans bel,(far bl (by omega) d1).trans h.box,(far bk (by omega) d2).trans h.kbx,(far bu (by omega) d3).trans h.ubx,fun i hi=> ?_,S.set m true,?_,?_,Nat.le_refl _⟩,fun i hi1 hi2=>far i hi2 (by omega),bel⟩
  ·obtain⟨q,e,hq,-⟩:=(ho2 y).1 hy
   exact⟨q,e,hq⟩
  ·rw[cS]at hk0
   rw[Nat.add_mul]at hk0
   omega
  ·obtain⟨v,e1,e2,e4⟩:=h.usr i hi
   exact⟨v,(World.cell?_of_block (a:=⟨gu,i,none⟩) (far gu (by omega) d4)).trans e1,ns_keep e2 bel.size (fun a n c e gg of ea=>far gg (by have:=(e4 a n c e gg of ea).1;omega) (e4 a n c e gg of ea).2),e4⟩
  ·exact(BR.set (BtV.kept hS (bX.block gs (by omega))) m true)
  ·refine hI.mark hm ?_ (soI.1 hso) (fun q hq=> ?_) (fun x=>rfl)
   ·intro p hp a ha s hs
    have:=okS hg hp ha hs
    omega
   ·refine(ho2 q).2 ⟨q,rfl,?_,hq⟩
    unfold symsN at hq
    cases hc:P[q]? with
    |none=>rw[hc]at hq;cases hq
    |some x=>exact(List.getElem?_eq_some_iff.1 hc).1
 obtain⟨au,lu,cu,rfl,-,-,-⟩:∃au lu cu,vu= .slice au lu cu∧True∧True∧True:=by
  obtain⟨a,c,e,-⟩:=u2
  exact⟨a,_,c,e,trivial,trivial,trivial⟩
 have hlb:gs<W.heap.size:=by omega
 have hlk:bk<W.heap.size:=by omega
 have hlu:bu<W.heap.size:=by omega
 have hlg:gu<W.heap.size:=by omega
 have hll:bl<W.heap.size:=by omega
 have HS:=zk hS
 clear h hS hI hk0 hO hP h3' hA hN2 e2 hp hpm c4 cd soI u2 u4 hT h0
 generalize P.length=N at*
 cases hb:bt S m with
 |true=>
  rw[show S.getD m false=true from hb]at tq
  have FIN:=zk (zq NONE (.inl hb))
  clear NONE YES CS hb HS
  go_enter Tryz.func91,Tryz.ntmps91
  go_wp2_with fail
  go_quiet (fail)
  go_wp2_with fail
  go_ret
  exact zq FIN _ drB
 |false=>
  rw[show S.getD m false=false from hb]at tq
  cases hso:soB S p.1 with
  |false=>
   rw[hso]at CS
   have FIN:=zk (zq NONE (.inr hso))
   clear NONE YES hb hso HS
   generalize p.1.length=pl at*
   go_enter Tryz.func91,Tryz.ntmps91
   go_wp2_with fail
   go_region_held3 (fun w'=>w'.cell? ⟨bk,0,none⟩=some (.slice (some ⟨gs,0,none⟩) N N)∧w'.cell? ⟨gs,m,none⟩=some (.bool false)∧w'.cell? ⟨bl,0,none⟩=some (.slice (some ⟨g,off,none⟩) N cP)∧w'.cell? ⟨g,off+m*3,none⟩=some (.slice x0 pl k0))
    (first
     |exact⟨c1,tq,c0,q0⟩
     |exact⟨(b2.cell (p:=⟨bk,0,none⟩) hlk).trans c1,(b2.cell (p:=⟨gs,m,none⟩) hlb).trans tq,(b2.cell (p:=⟨bl,0,none⟩) hll).trans c0,(b2.cell (p:=⟨g,off+m*3,none⟩) hgl).trans q0⟩)
    ((go_at_call 92;refine(zq CS _ drB).mono ?_;rintro e w2 ⟨rfl,b2'⟩;have b2:=Xj (drB (w:=W)) b2';clear b2'))
   all_goals (go_wp2_with fail)
   all_goals go_ret
   all_goals exact zq FIN _ b2
  |true=>
   rw[hso]at CS
   have FIN:=zk (zq YES hb hso)
   clear NONE YES hb hso
   generalize p.1.length=pl at*
   go_enter Tryz.func91,Tryz.ntmps91
   go_wp2_with fail
   go_region_held3 (fun w'=>w'.cell? ⟨bk,0,none⟩=some (.slice (some ⟨gs,0,none⟩) N N)∧w'.cell? ⟨gs,m,none⟩=some (.bool false)∧w'.cell? ⟨bl,0,none⟩=some (.slice (some ⟨g,off,none⟩) N cP)∧w'.cell? ⟨g,off+m*3,none⟩=some (.slice x0 pl k0))
    (first
     |exact⟨c1,tq,c0,q0⟩
     |exact⟨(b2.cell (p:=⟨bk,0,none⟩) hlk).trans c1,(b2.cell (p:=⟨gs,m,none⟩) hlb).trans tq,(b2.cell (p:=⟨bl,0,none⟩) hll).trans c0,(b2.cell (p:=⟨g,off+m*3,none⟩) hgl).trans q0⟩)
    ((go_at_call 92;refine(zq CS _ drB).mono ?_;rintro e w2 ⟨rfl,b2'⟩;have b2:=Xj (drB (w:=W)) b2';clear b2'))
   all_goals (
    have c1':=(b2.cell (p:=⟨bk,0,none⟩) hlk).trans c1
    have tq':=(b2.cell (p:=⟨gs,m,none⟩) hlb).trans tq
    have tz':=(b2.frozen (p:=⟨gs,m,none⟩) hlb).trans tz
    have c2':(w2.setCell ⟨gs,m,none⟩ (.bool true)).cell? ⟨bu,0,none⟩=some (.slice (some ⟨gu,0,none⟩) N N):=(World.cell?_of_block (a:=⟨bu,0,none⟩) (heap_setCell_other _ _ _ _ d3)).trans ((b2.cell (p:=⟨bu,0,none⟩) hlu).trans c2)
    have u1':(w2.setCell ⟨gs,m,none⟩ (.bool true)).cell? ⟨gu,m,none⟩=some (.slice au lu cu):=(World.cell?_of_block (a:=⟨gu,m,none⟩) (heap_setCell_other _ _ _ _ d4)).trans ((b2.cell (p:=⟨gu,m,none⟩) hlg).trans u1)
    clear c0 c1 c2 u1 tq q0 q1 q2 CS)
   all_goals (go_wp2_with fail)
   all_goals go_ret
   all_goals (obtain⟨l,k',f1,f2,f3,f4,f5,f6,f7⟩:=zq FIN _ b2)
   all_goals exact⟨_,l,k',rfl,f1,f2,f3,f4,f5,f6,f7⟩
theorem mk_bools (n:Nat) (hn:n≤900000):∃M:Array Value,M.toList=List.replicate n (.bool false)∧∀W:World,(Instr.makeSlice 90 (.int .i64 (n:Int)) (.int .i64 (n:Int))).run Tryz.prog W= .ok (.slice (some ⟨W.heap.size,0,none⟩) n n) (W.alloc (.cells M 4)):=by
 obtain⟨ti,hi0,hz0,hz1,hzb⟩:=infoT boolT_info
 refine⟨madeCells #[.bool false] (n*1),?_,fun W=> ?_⟩
 ·apply List.ext_getElem?
  intro j
  rw[Nat.mul_one]
  by_cases hj:j<n
  ·simp[madeCells,hj,Nat.mod_one]
  ·simp[madeCells,hj]
 ·have:=run_make (P:=Tryz.prog) W 90 4 ti _ Tryz.underlying90 hi0 hz0 .i64 .i64 (n:Int) (n:Int) (by omega) (by omega) (by rw[hzb];omega) (by omega)
  rw[hz1]at this
  exact this
def slA (n:Nat):Option Nat→Value|none=> .slice none 0 0|some g=> .slice (some ⟨g,0,none⟩) n n
def Blk (s t:Nat):Option Nat→Prop|none=>True|some g=>¬(s≤g∧g<t)
def Fu (W:World) (n:Nat) (R:List (List Int)→Prop) (X:World) (g s t:Nat) (O:List (List Int)):Prop:=W.heap.size≤s∧t≤X.heap.size∧s≤g∧g<t∧R O∧∀m:Nat,m<n→∃v,X.cell? ⟨g,m,none⟩=some v∧Ns X v (O.getD m [])∧∀a n c,v= .slice a n c→∀g off,a=some ⟨g,off,none⟩→s≤g∧g<t
structure TxS (W:World) (n:Nat) (M:Array Value) (R:List (List Int)→Prop) (a3 v3 a4 v4 aS au:Option Nat) (X:World):Prop where
 bel:Below W.heap.size W X
 f3:∀g,a3=some g→W.heap.size≤g∧X.heap[g]? =some (.cells #[slA n v3] 90)
 f4:∀g,a4=some g→W.heap.size≤g∧X.heap[g]? =some (.cells #[slA n v4] 60)
 fs:∀g,aS=some g→W.heap.size≤g∧X.heap[g]? =some (.cells M 4)
 fu:∀g,au=some g→∃s t O,Fu W n R X g s t O∧Blk s t a3∧Blk s t a4∧Blk s t aS
 d34:∀g h,a3=some g→a4=some h→g≠h
 d3s:∀g h,a3=some g→aS=some h→g≠h
 d4s:∀g h,a4=some g→aS=some h→g≠h
variable {W X Y:World} {n:Nat} {M:Array Value} {R:List (List Int)→Prop} {a3 v3 a4 v4 aS au:Option Nat}
theorem XJ {X:World} {g:Nat} {o:Obj} (h:X.heap[g]? =some o):g<X.heap.size:=(Array.getElem?_eq_some_iff.1 h).1
theorem TxS.zero (X:World) (b:Below W.heap.size W X):TxS W n M R none none none none none none X:=
 ⟨b,fun g h=>(by cases h),fun g h=>(by cases h),fun g h=>(by cases h),fun g h=>(by cases h),fun g h a=>(by cases a),fun g h a=>(by cases a),fun g h a=>(by cases a)⟩
theorem Blk.new {s t:Nat} {x:Nat} (h:t≤x):Blk s t (some x):=fun a=>by omega
theorem Blk.old {s t:Nat} {a:Option Nat} (h:∀g,a=some g→g<s):Blk s t a:=by
 cases a with
 |none=>trivial
 |some g=>exact fun c=>by have:=h g rfl;omega
theorem Fu.keep {g s t:Nat} {O:List (List Int)} (h:Fu W n R X g s t O) (hs:X.heap.size≤Y.heap.size) (k:∀i,s≤i→i<t→Y.heap[i]? =X.heap[i]?):Fu W n R Y g s t O:=by
 obtain⟨h1,h2,h3,h4,h5,h6⟩:=h
 refine⟨h1,by omega,h3,h4,h5,fun m hm=> ?_⟩
 obtain⟨v,e1,e2,e3⟩:=h6 m hm
 exact⟨v,(World.cell?_of_block (a:=⟨g,m,none⟩) (k g h3 h4)).trans e1,ns_keep e2 hs (fun a n c e gg of ea=>k gg (e3 a n c e gg of ea).1 (e3 a n c e gg of ea).2),e3⟩
theorem Fu.bel {g s t:Nat} {O:List (List Int)} (h:Fu W n R X g s t O) (b:Below X.heap.size X Y):Fu W n R Y g s t O:=h.keep b.size (fun i _ hi=>b.block i (by have:=h.2.1;omega))
section
variable (h:TxS W n M R a3 v3 a4 v4 aS au X) (b:Below X.heap.size X Y)
include h b
theorem TxS.g3 (g:Nat) (e:a3=some g):W.heap.size≤g∧Y.heap[g]? =some (.cells #[slA n v3] 90):=⟨(h.f3 g e).1,(b.block _ (XJ (h.f3 g e).2)).trans (h.f3 g e).2⟩
theorem TxS.g4 (g:Nat) (e:a4=some g):W.heap.size≤g∧Y.heap[g]? =some (.cells #[slA n v4] 60):=⟨(h.f4 g e).1,(b.block _ (XJ (h.f4 g e).2)).trans (h.f4 g e).2⟩
theorem TxS.gs (g:Nat) (e:aS=some g):W.heap.size≤g∧Y.heap[g]? =some (.cells M 4):=⟨(h.fs g e).1,(b.block _ (XJ (h.fs g e).2)).trans (h.fs g e).2⟩
theorem TxS.keep:TxS W n M R a3 v3 a4 v4 aS au Y:=
 ⟨h.bel.trans (b.mono h.bel.size),h.g3 b,h.g4 b,h.gs b,fun g e=>by obtain⟨s,t,O,h1,h2⟩:=h.fu g e;exact⟨s,t,O,h1.bel b,h2⟩,h.d34,h.d3s,h.d4s⟩
end
theorem TxS.mks (h:TxS W n M R a3 v3 a4 v4 none au X):TxS W n M R a3 v3 a4 v4 (some X.heap.size) au (X.alloc (.cells M 4)):=by
 have b:=Below.new1 (w:=X) (.cells M 4)
 refine⟨(h.keep b).bel,h.g3 b,h.g4 b,fun g e=>by cases e;exact⟨h.bel.size,heap_alloc_new _ _⟩,fun g e=> ?_,h.d34,fun g i e e'=> ?_,fun g i e e'=> ?_⟩
 ·obtain⟨s,t,O,h1,h2,h3,-⟩:=h.fu g e
  exact⟨s,t,O,h1.bel b,h2,h3,Blk.new h1.2.1⟩
 ·cases e';have:=XJ (h.f3 g e).2;omega
 ·cases e';have:=XJ (h.f4 g e).2;omega
theorem TxS.mk3 (h:TxS W n M R none none a4 v4 aS au X):TxS W n M R (some X.heap.size) none a4 v4 aS au (X.alloc (.cells #[.slice none 0 0] 90)):=by
 have b:=Below.new1 (w:=X) (.cells #[.slice none 0 0] 90)
 refine⟨(h.keep b).bel,fun g e=>by cases e;exact⟨h.bel.size,heap_alloc_new _ _⟩,h.g4 b,h.gs b,fun g e=> ?_,fun g i e e'=> ?_,fun g i e e'=> ?_,h.d4s⟩
 ·obtain⟨s,t,O,h1,h2,h3,h4⟩:=h.fu g e
  exact⟨s,t,O,h1.bel b,Blk.new h1.2.1,h3,h4⟩
 ·cases e;have:=XJ (h.f4 i e').2;omega
 ·cases e;have:=XJ (h.fs i e').2;omega
theorem TxS.mk4 (h:TxS W n M R a3 v3 none none aS au X):TxS W n M R a3 v3 (some X.heap.size) none aS au (X.alloc (.cells #[.slice none 0 0] 60)):=by
 have b:=Below.new1 (w:=X) (.cells #[.slice none 0 0] 60)
 refine⟨(h.keep b).bel,h.g3 b,fun g e=>by cases e;exact⟨h.bel.size,heap_alloc_new _ _⟩,h.gs b,fun g e=> ?_,fun g i e e'=> ?_,h.d3s,fun g i e e'=> ?_⟩
 ·obtain⟨s,t,O,h1,h2,h3,h4⟩:=h.fu g e
  exact⟨s,t,O,h1.bel b,h2,Blk.new h1.2.1,h4⟩
 ·cases e';have:=XJ (h.f3 g e).2;omega
 ·cases e;have:=XJ (h.fs i e').2;omega
theorem TxS.mku {gu:Nat} {O:List (List Int)} (h:TxS W n M R a3 v3 a4 v4 aS none X) (b:Below X.heap.size X Y) (u:UsM X.heap.size Y gu n O) (hR:R O):TxS W n M R a3 v3 a4 v4 aS (some gu) Y:=by
 refine⟨(h.keep b).bel,h.g3 b,h.g4 b,h.gs b,fun g e=> ?_,h.d34,h.d3s,h.d4s⟩
 cases e
 exact⟨X.heap.size,Y.heap.size,O,⟨h.bel.size,Nat.le_refl _,u.1,u.2.1,hR,u.2.2⟩,Blk.old fun g e=>XJ (h.f3 g e).2,Blk.old fun g e=>XJ (h.f4 g e).2,Blk.old fun g e=>XJ (h.fs g e).2⟩
theorem TxS.st3 {g h':Nat} (h:TxS W n M R (some g) none a4 v4 (some h') au X):TxS W n M R (some g) (some h') a4 v4 (some h') au (X.setCell ⟨g,0,none⟩ (.slice (some ⟨h',0,none⟩) n n)):=by
 obtain⟨l0,c0⟩:=h.f3 g rfl
 have far:∀i,i≠g→(X.setCell ⟨g,0,none⟩ (.slice (some ⟨h',0,none⟩) n n)).heap[i]? =X.heap[i]? :=fun i hi=>heap_setCell_other _ _ _ _ hi
 have b:=h.bel.setCell (p:=⟨g,0,none⟩) l0 (.slice (some ⟨h',0,none⟩) n n)
 refine⟨b,fun i e=> ?_,fun i e=>⟨(h.f4 i e).1,(far i (fun c=>h.d34 g i rfl e c.symm)).trans (h.f4 i e).2⟩,fun i e=>⟨(h.fs i e).1,(far i (fun c=>h.d3s g i rfl e c.symm)).trans (h.fs i e).2⟩,fun i e=> ?_,h.d34,h.d3s,h.d4s⟩
 ·cases e
  exact⟨l0,(heap_setCell_same X g 0 _ _ _ c0).trans rfl⟩
 ·obtain⟨s,t,O,h1,h2,h3⟩:=h.fu i e
  exact⟨s,t,O,h1.keep (by simp) (fun j j1 j2=>far j (fun c=>h2 (by subst c;exact⟨j1,j2⟩))),h2,h3⟩
theorem TxS.st4 {g h':Nat} (h:TxS W n M R a3 v3 (some g) none aS (some h') X):TxS W n M R a3 v3 (some g) (some h') aS (some h') (X.setCell ⟨g,0,none⟩ (.slice (some ⟨h',0,none⟩) n n)):=by
 obtain⟨l0,c0⟩:=h.f4 g rfl
 have far:∀i,i≠g→(X.setCell ⟨g,0,none⟩ (.slice (some ⟨h',0,none⟩) n n)).heap[i]? =X.heap[i]? :=fun i hi=>heap_setCell_other _ _ _ _ hi
 have b:=h.bel.setCell (p:=⟨g,0,none⟩) l0 (.slice (some ⟨h',0,none⟩) n n)
 refine⟨b,fun i e=>⟨(h.f3 i e).1,(far i (fun c=>h.d34 i g e rfl c)).trans (h.f3 i e).2⟩,fun i e=> ?_,fun i e=>⟨(h.fs i e).1,(far i (fun c=>h.d4s g i rfl e c.symm)).trans (h.fs i e).2⟩,fun i e=> ?_,h.d34,h.d3s,h.d4s⟩
 ·cases e
  exact⟨l0,(heap_setCell_same X g 0 _ _ _ c0).trans rfl⟩
 ·obtain⟨s,t,O,h1,h2,h3,h4⟩:=h.fu i e
  exact⟨s,t,O,h1.keep (by simp) (fun j j1 j2=>far j (fun c=>h3 (by subst c;exact⟨j1,j2⟩))),h2,h3,h4⟩
theorem via {A B:Prop} (f:A→B) (a:A):B:=f a
theorem fz1 {X:World} {g:Nat} {x:Value} {t:TypeId} (h:X.heap[g]? =some (.cells #[x] t)):X.frozen? ⟨g,0,none⟩=false:=by simp[World.frozen?,h]
def Usr (P:List PRD) (O:List (List Int)):Prop:=∀m:Nat,m<P.length→(O.getD m []).length≤20000∧∀x,x∈O.getD m []↔∃q:Nat,x=(q:Int)∧q<P.length∧(m:Int)∈symsN P q
theorem btv_zero {Y:World} {gs n:Nat} {M:Array Value} (hM:M.toList=List.replicate n (.bool false)) (h:Y.heap[gs]? =some (.cells M 4)) (hn:n≤900000):BtV Y gs n (List.replicate n false):=by
 refine⟨by simp,.inr ⟨gs,n,M,rfl,Nat.le_refl _,h,Nat.le_refl _,by unfold maxLen;omega,?_,?_⟩⟩
 ·rw[←Array.length_toList,hM,List.length_replicate,Nat.mul_one]
 ·rw[hM,Nat.mul_one,List.take_replicate,Nat.min_self,List.map_replicate]
theorem spreadT (aP:Option Addr) (cP:Nat) (P:List PRD) (w W X:World) (M:Array Value) (g3 g4 gs gu:Nat) (hP:PrM w (.slice aP P.length cP) P) (hg:gramB P=true) (hM:M.toList=List.replicate P.length (.bool false)) (hW:W.heap.size=w.heap.size+1) (bW:Below w.heap.size w W)
  (hb:∀X,Below W.heap.size W X→X.heap[w.heap.size]? =some (.cells #[.slice aP P.length cP] 22)) (T:TxS W P.length M (Usr P) (some g3) (some gs) (some g4) (some gu) (some gs) (some gu) X) (Y:World) (v:Value) (b:Below X.heap.size X Y) (hv:Ns Y v ((List.range P.length).map fun i:Nat=>(i:Int))):
  Calls Tryz.prog 86 #[.int .i64 (P.length:Nat),v,.func (.func 91) #[] #[.pointer (some ⟨g3,0,none⟩),.pointer (some ⟨w.heap.size,0,none⟩),.pointer (some ⟨g4,0,none⟩)]] Y fun e w'=>e= .returned (.tuple #[])∧∃S,BtV w' gs P.length S∧S.length=P.length∧(∀m:Nat,S.getD m false=true↔Tx P (m:Int))∧w'.cell? ⟨g3,0,none⟩=some (.slice (some ⟨gs,0,none⟩) P.length P.length)∧w'.cell? ⟨w.heap.size,0,none⟩=some (.slice aP P.length cP)∧Below w.heap.size Y w':=by
 have h60:=(Xv hg).2.1
 have TY:=T.keep b
 obtain⟨s,t,O,⟨p1,p2,p3,p4,hO,p6⟩,k3,k4,ks⟩:=TY.fu gu rfl
 have HE:∀args W,(callFunc 91 args).run Tryz.prog W= .ok (.enter 91 args) W:=enterK Tryz.func91 (by kernel_rfl) rfl
 obtain⟨l3,q3⟩:=TY.f3 g3 rfl
 obtain⟨l4,q4⟩:=TY.f4 g4 rfl
 obtain⟨ls,qs⟩:=TY.fs gs rfl
 have qb:=hb _ TY.bel
 have y0:=XJ qb
 have y3:=XJ q3
 have y4:=XJ q4
 have ys:=XJ qs
 have d3:=TY.d3s g3 gs rfl rfl
 have d4:=TY.d4s g4 gs rfl rfl
 have du:gu≠gs:=fun c=>ks (by subst c;exact⟨p3,p4⟩)
 refine(spread_l (MkM w P w.heap.size g3 g4 gs gu Y.heap.size aP cP O) 91 _ P.length w.heap.size (Xw P.length (bt (List.replicate P.length false))*(P.length+1)+(P.length-Xw P.length (fun i=>upT (fun _=>false) ((List.range P.length).map fun i:Nat=>(i:Int)) (i:Int)))) HE v _ Y ⟨fun k W' W'' T hM b=>hM.keep (by omega) (by omega) (by omega) (by omega) (by omega) (by omega) b,fun k W' T m hM hm hT hN=> ?_⟩ (by omega) hv (by simp;omega) (fun y hy=> ?_) (by omega) ?_).mono ?_
 ·exact textLook_l w P w.heap.size g3 g4 gs gu Y.heap.size aP cP k m O W' T hP hg hM hm hT hO (by omega) (by omega) (by omega) (by omega) (by omega) (by omega) hN (by omega) d3 d4 du
 ·obtain⟨i,hi,rfl⟩:=List.mem_map.1 hy
  exact⟨i,rfl,List.mem_range.1 hi⟩
 ·refine⟨bW.trans (TY.bel.mono (by omega)),qb,q3,q4,fun m hm=> ?_,List.replicate P.length false,btv_zero hM qs (by omega),TxI.begin P (fun m hm=> ?_),Nat.le_refl _⟩
  ·obtain⟨v,e1,e2,e3⟩:=p6 m hm
   exact⟨v,e1,e2,fun a n c e g off ea=>⟨by have:=e3 a n c e g off ea;omega,fun c=>ks (by subst c;exact e3 a n _ e g off ea)⟩⟩
  ·unfold upT;simp;exact⟨m,hm,rfl⟩
 ·rintro e w' ⟨rfl,k,T',hM',h0,b2⟩
  obtain⟨S,hS,hI,-⟩:=hM'.go
  exact⟨rfl,S,hS,hI.len,fun m=>hI.done h0 m,Xk hM'.kbx,Xk hM'.box,b2⟩
theorem withText_l (aP:Option Addr) (cP:Nat) (P:List PRD) (w:World) (h:PrM w (.slice aP P.length cP) P) (hg:gramB P=true):
  Calls Tryz.prog 57 #[.slice aP P.length cP] w fun e w'=>∃v S,e= .returned v∧BIR w' w.heap.size v S∧S.length=P.length∧(∀m:Nat,S.getD m false=true↔Tx P (m:Int))∧Below w.heap.size w w':=by
 have h60:=(Xv hg).2.1
 have CU:=zk (fun W (b:Below w.heap.size w W)=>usersOf_l aP cP P W (h.later b) hg)
 obtain⟨M,hM,hr⟩:=mk_bools P.length (by omega)
 generalize hNN:P.length=N at*
 have HNN:=zk hNN
 have HP:=zk h
 have HG:=zk hg
 clear hNN h hg
 go_enter Tryz.func57,Tryz.ntmps57
 go_wp2_with fail
 have G0:=heap_alloc_new w (.cells #[.slice aP N cP] 22)
 have G0c:=Xk G0
 have hsz:(w.alloc (.cells #[.slice aP N cP] 22)).heap.size=w.heap.size+1:=by simp
 have BW:=zk (Below.new1 (w:=w) (.cells #[.slice aP N cP] 22))
 generalize w.alloc (.cells #[.slice aP N cP] 22)=W at*
 have HH:Hid (∀X,Below W.heap.size W X→X.cell? ⟨w.heap.size,0,none⟩=some (.slice aP N cP)):=fun X b=>(b.cell (p:=⟨w.heap.size,0,none⟩) (by show w.heap.size<_;omega)).trans G0c
 have HX:Hid (∀X,Below W.heap.size W X→X.heap[w.heap.size]? =some (.cells #[.slice aP N cP] 22)):=fun X b=>(b.block _ (by omega)).trans G0
 have CU2:Hid (∀X,Below W.heap.size W X→Calls Tryz.prog 89 #[.slice aP N cP] X fun e w'=>∃gu O,e= .returned (.slice (some ⟨gu,0,none⟩) N N)∧UsM X.heap.size w' gu N O∧Usr P O∧Below X.heap.size X w'):=by
  intro X b
  have:=zq CU X ((zq BW).trans (b.mono (by omega)))
  rw[←zq HNN]at this⊢
  exact this
 have T:=TxS.zero (W:=W) (n:=N) (M:=M) (R:=Usr P) W.drew (Below.refl _ _).drew
 clear CU G0
 refine wp_region_held_drew (S:=fun w'=>w'.cell? ⟨w.heap.size,0,none⟩=some (.slice aP N cP)) (by kernel_rfl) G0c (fun hHeld=> ?_)
 clear G0c
 generalize W.drew=X at*
 refine tkh 0 ?_ rfl (by kernel_rfl) (fun _ _ _ h=>h) ?_ (by assumption) ?_
 rotate_left
 ·intro w hSw;go_simp;(try with_reducible rfl)
 refine tkh 1 ?_ rfl (by kernel_rfl) (fun _ _ _ h=>h) ?_ (by assumption) ?_
 rotate_left
 ·intro w hSw;go_simp;(try with_reducible rfl)
 refine tkh 3 ?_ rfl (by kernel_rfl) (fun _ _ _ h=>h) ?_ (by assumption) ?_
 rotate_left
 ·intro w hSw;go_simp;(try with_reducible rfl)
 clear hHeld
 try simp only[Act.put,List.getElem_toArray,List.getElem_cons_succ,List.getElem_cons_zero,List.setIfInBounds_toArray,List.set_cons_zero,List.set_cons_succ]
 revert T
 revert X
 refine via (A:= ?Ak245678) (fun k245678=> ?_) ?_
 rotate_left
 refine via (A:= ?Ak24567) (fun k24567=> ?_) ?_
 rotate_left
 refine via (A:= ?Ak2456) (fun k2456=> ?_) ?_
 rotate_left
 refine via (A:= ?Ak456) (fun k456=> ?_) ?_
 rotate_left
 refine via (A:= ?Ak256) (fun k256=> ?_) ?_
 rotate_left
 refine via (A:= ?Ak246) (fun k246=> ?_) ?_
 rotate_left
 refine via (A:= ?Ak245) (fun k245=> ?_) ?_
 rotate_left
 refine via (A:= ?Ak56) (fun k56=> ?_) ?_
 rotate_left
 refine via (A:= ?Ak46) (fun k46=> ?_) ?_
 rotate_left
 refine via (A:= ?Ak45) (fun k45=> ?_) ?_
 rotate_left
 refine via (A:= ?Ak26) (fun k26=> ?_) ?_
 rotate_left
 refine via (A:= ?Ak25) (fun k25=> ?_) ?_
 rotate_left
 refine via (A:= ?Ak24) (fun k24=> ?_) ?_
 rotate_left
 refine via (A:= ?Ak6) (fun k6=> ?_) ?_
 rotate_left
 refine via (A:= ?Ak5) (fun k5=> ?_) ?_
 rotate_left
 refine via (A:= ?Ak4) (fun k4=> ?_) ?_
 rotate_left
 refine via (A:= ?Ak2) (fun k2=> ?_) ?_
 rotate_left
 ·intro X T
  refine wpAnyH_ready (rs:=[2,4,5,6]) (by kernel_rfl) (by simp) ?_
  refine AllReadyH.cons rfl (fun K hK=> ?_) (AllReadyH.cons rfl (fun K hK=> ?_) (AllReadyH.cons rfl (fun K hK=> ?_) (AllReadyH.cons rfl (fun K hK=> ?_) AllReadyH.nil)))
  ·go_simp
   have T2:=T.mks
   refine hK.out _ _ (zq HH _ T2.bel) (fun hHeld=> ?_)
   clear hK K hHeld T
   try simp only[Act.put,List.getElem_toArray,List.getElem_cons_succ,List.getElem_cons_zero,List.setIfInBounds_toArray,List.set_cons_zero,List.set_cons_succ]
   generalize X.alloc (.cells M 4)=Y at T2⊢
   generalize X.heap.size=gs at T2⊢
   revert T2
   revert gs
   revert Y
   exact k2
  ·go_simp
   refine(zq CU2 _ T.bel).mono ?_
   rintro e Y ⟨gu,O,rfl,hu,hO,bY⟩
   have T2:=T.mku bY hu hO
   clear hu hO bY
   refine hK.out _ _ (zq HH _ T2.bel) (fun hHeld=> ?_)
   clear hK K hHeld T
   try simp only[Act.put,List.getElem_toArray,List.getElem_cons_succ,List.getElem_cons_zero,List.setIfInBounds_toArray,List.set_cons_zero,List.set_cons_succ]
   revert T2
   revert gu
   revert Y
   exact k4
  ·go_simp
   have T2:=T.mk3
   refine hK.out _ _ (zq HH _ T2.bel) (fun hHeld=> ?_)
   clear hK K hHeld T
   try simp only[Act.put,List.getElem_toArray,List.getElem_cons_succ,List.getElem_cons_zero,List.setIfInBounds_toArray,List.set_cons_zero,List.set_cons_succ]
   generalize X.alloc (.cells #[.slice none 0 0] 90)=Y at T2⊢
   generalize X.heap.size=g3 at T2⊢
   revert T2
   revert g3
   revert Y
   exact k5
  ·go_simp
   have T2:=T.mk4
   refine hK.out _ _ (zq HH _ T2.bel) (fun hHeld=> ?_)
   clear hK K hHeld T
   try simp only[Act.put,List.getElem_toArray,List.getElem_cons_succ,List.getElem_cons_zero,List.setIfInBounds_toArray,List.set_cons_zero,List.set_cons_succ]
   generalize X.alloc (.cells #[.slice none 0 0] 60)=Y at T2⊢
   generalize X.heap.size=g4 at T2⊢
   revert T2
   revert g4
   revert Y
   exact k6
 ·intro X gs T
  refine wpAnyH_ready (rs:=[4,5,6]) (by kernel_rfl) (by simp) ?_
  refine AllReadyH.cons rfl (fun K hK=> ?_) (AllReadyH.cons rfl (fun K hK=> ?_) (AllReadyH.cons rfl (fun K hK=> ?_) AllReadyH.nil))
  ·go_simp
   refine(zq CU2 _ T.bel).mono ?_
   rintro e Y ⟨gu,O,rfl,hu,hO,bY⟩
   have T2:=T.mku bY hu hO
   clear hu hO bY
   refine hK.out _ _ (zq HH _ T2.bel) (fun hHeld=> ?_)
   clear hK K hHeld T
   try simp only[Act.put,List.getElem_toArray,List.getElem_cons_succ,List.getElem_cons_zero,List.setIfInBounds_toArray,List.set_cons_zero,List.set_cons_succ]
   revert T2
   revert gu
   revert gs
   revert Y
   exact k24
  ·go_simp
   have T2:=T.mk3
   refine hK.out _ _ (zq HH _ T2.bel) (fun hHeld=> ?_)
   clear hK K hHeld T
   try simp only[Act.put,List.getElem_toArray,List.getElem_cons_succ,List.getElem_cons_zero,List.setIfInBounds_toArray,List.set_cons_zero,List.set_cons_succ]
   generalize X.alloc (.cells #[.slice none 0 0] 90)=Y at T2⊢
   generalize X.heap.size=g3 at T2⊢
   revert T2
   revert gs
   revert g3
   revert Y
   exact k25
  ·go_simp
   have T2:=T.mk4
   refine hK.out _ _ (zq HH _ T2.bel) (fun hHeld=> ?_)
   clear hK K hHeld T
   try simp only[Act.put,List.getElem_toArray,List.getElem_cons_succ,List.getElem_cons_zero,List.setIfInBounds_toArray,List.set_cons_zero,List.set_cons_succ]
   generalize X.alloc (.cells #[.slice none 0 0] 60)=Y at T2⊢
   generalize X.heap.size=g4 at T2⊢
   revert T2
   revert gs
   revert g4
   revert Y
   exact k26
 ·intro X gu T
  refine wpAnyH_ready (rs:=[2,5,6]) (by kernel_rfl) (by simp) ?_
  refine AllReadyH.cons rfl (fun K hK=> ?_) (AllReadyH.cons rfl (fun K hK=> ?_) (AllReadyH.cons rfl (fun K hK=> ?_) AllReadyH.nil))
  ·go_simp
   have T2:=T.mks
   refine hK.out _ _ (zq HH _ T2.bel) (fun hHeld=> ?_)
   clear hK K hHeld T
   try simp only[Act.put,List.getElem_toArray,List.getElem_cons_succ,List.getElem_cons_zero,List.setIfInBounds_toArray,List.set_cons_zero,List.set_cons_succ]
   generalize X.alloc (.cells M 4)=Y at T2⊢
   generalize X.heap.size=gs at T2⊢
   revert T2
   revert gu
   revert gs
   revert Y
   exact k24
  ·go_simp
   have T2:=T.mk3
   refine hK.out _ _ (zq HH _ T2.bel) (fun hHeld=> ?_)
   clear hK K hHeld T
   try simp only[Act.put,List.getElem_toArray,List.getElem_cons_succ,List.getElem_cons_zero,List.setIfInBounds_toArray,List.set_cons_zero,List.set_cons_succ]
   generalize X.alloc (.cells #[.slice none 0 0] 90)=Y at T2⊢
   generalize X.heap.size=g3 at T2⊢
   revert T2
   revert gu
   revert g3
   revert Y
   exact k45
  ·go_simp
   have T2:=T.mk4
   refine hK.out _ _ (zq HH _ T2.bel) (fun hHeld=> ?_)
   clear hK K hHeld T
   try simp only[Act.put,List.getElem_toArray,List.getElem_cons_succ,List.getElem_cons_zero,List.setIfInBounds_toArray,List.set_cons_zero,List.set_cons_succ]
   generalize X.alloc (.cells #[.slice none 0 0] 60)=Y at T2⊢
   generalize X.heap.size=g4 at T2⊢
   revert T2
   revert gu
   revert g4
   revert Y
   exact k46
 ·intro X g3 T
  refine wpAnyH_ready (rs:=[2,4,6]) (by kernel_rfl) (by simp) ?_
  refine AllReadyH.cons rfl (fun K hK=> ?_) (AllReadyH.cons rfl (fun K hK=> ?_) (AllReadyH.cons rfl (fun K hK=> ?_) AllReadyH.nil))
  ·go_simp
   have T2:=T.mks
   refine hK.out _ _ (zq HH _ T2.bel) (fun hHeld=> ?_)
   clear hK K hHeld T
   try simp only[Act.put,List.getElem_toArray,List.getElem_cons_succ,List.getElem_cons_zero,List.setIfInBounds_toArray,List.set_cons_zero,List.set_cons_succ]
   generalize X.alloc (.cells M 4)=Y at T2⊢
   generalize X.heap.size=gs at T2⊢
   revert T2
   revert gs
   revert g3
   revert Y
   exact k25
  ·go_simp
   refine(zq CU2 _ T.bel).mono ?_
   rintro e Y ⟨gu,O,rfl,hu,hO,bY⟩
   have T2:=T.mku bY hu hO
   clear hu hO bY
   refine hK.out _ _ (zq HH _ T2.bel) (fun hHeld=> ?_)
   clear hK K hHeld T
   try simp only[Act.put,List.getElem_toArray,List.getElem_cons_succ,List.getElem_cons_zero,List.setIfInBounds_toArray,List.set_cons_zero,List.set_cons_succ]
   revert T2
   revert gu
   revert g3
   revert Y
   exact k45
  ·go_simp
   have T2:=T.mk4
   refine hK.out _ _ (zq HH _ T2.bel) (fun hHeld=> ?_)
   clear hK K hHeld T
   try simp only[Act.put,List.getElem_toArray,List.getElem_cons_succ,List.getElem_cons_zero,List.setIfInBounds_toArray,List.set_cons_zero,List.set_cons_succ]
   generalize X.alloc (.cells #[.slice none 0 0] 60)=Y at T2⊢
   generalize X.heap.size=g4 at T2⊢
   revert T2
   revert g4
   revert g3
   revert Y
   exact k56
 ·intro X g4 T
  refine wpAnyH_ready (rs:=[2,4,5]) (by kernel_rfl) (by simp) ?_
  refine AllReadyH.cons rfl (fun K hK=> ?_) (AllReadyH.cons rfl (fun K hK=> ?_) (AllReadyH.cons rfl (fun K hK=> ?_) AllReadyH.nil))
  ·go_simp
   have T2:=T.mks
   refine hK.out _ _ (zq HH _ T2.bel) (fun hHeld=> ?_)
   clear hK K hHeld T
   try simp only[Act.put,List.getElem_toArray,List.getElem_cons_succ,List.getElem_cons_zero,List.setIfInBounds_toArray,List.set_cons_zero,List.set_cons_succ]
   generalize X.alloc (.cells M 4)=Y at T2⊢
   generalize X.heap.size=gs at T2⊢
   revert T2
   revert gs
   revert g4
   revert Y
   exact k26
  ·go_simp
   refine(zq CU2 _ T.bel).mono ?_
   rintro e Y ⟨gu,O,rfl,hu,hO,bY⟩
   have T2:=T.mku bY hu hO
   clear hu hO bY
   refine hK.out _ _ (zq HH _ T2.bel) (fun hHeld=> ?_)
   clear hK K hHeld T
   try simp only[Act.put,List.getElem_toArray,List.getElem_cons_succ,List.getElem_cons_zero,List.setIfInBounds_toArray,List.set_cons_zero,List.set_cons_succ]
   revert T2
   revert gu
   revert g4
   revert Y
   exact k46
  ·go_simp
   have T2:=T.mk3
   refine hK.out _ _ (zq HH _ T2.bel) (fun hHeld=> ?_)
   clear hK K hHeld T
   try simp only[Act.put,List.getElem_toArray,List.getElem_cons_succ,List.getElem_cons_zero,List.setIfInBounds_toArray,List.set_cons_zero,List.set_cons_succ]
   generalize X.alloc (.cells #[.slice none 0 0] 90)=Y at T2⊢
   generalize X.heap.size=g3 at T2⊢
   revert T2
   revert g4
   revert g3
   revert Y
   exact k56
 ·intro X gs gu T
  refine wpAnyH_ready (rs:=[5,6]) (by kernel_rfl) (by simp) ?_
  refine AllReadyH.cons rfl (fun K hK=> ?_) (AllReadyH.cons rfl (fun K hK=> ?_) AllReadyH.nil)
  ·go_simp
   have T2:=T.mk3
   refine hK.out _ _ (zq HH _ T2.bel) (fun hHeld=> ?_)
   clear hK K hHeld T
   try simp only[Act.put,List.getElem_toArray,List.getElem_cons_succ,List.getElem_cons_zero,List.setIfInBounds_toArray,List.set_cons_zero,List.set_cons_succ]
   generalize X.alloc (.cells #[.slice none 0 0] 90)=Y at T2⊢
   generalize X.heap.size=g3 at T2⊢
   revert T2
   revert gu
   revert gs
   revert g3
   revert Y
   exact k245
  ·go_simp
   have T2:=T.mk4
   refine hK.out _ _ (zq HH _ T2.bel) (fun hHeld=> ?_)
   clear hK K hHeld T
   try simp only[Act.put,List.getElem_toArray,List.getElem_cons_succ,List.getElem_cons_zero,List.setIfInBounds_toArray,List.set_cons_zero,List.set_cons_succ]
   generalize X.alloc (.cells #[.slice none 0 0] 60)=Y at T2⊢
   generalize X.heap.size=g4 at T2⊢
   revert T2
   revert gu
   revert gs
   revert g4
   revert Y
   exact k246
 ·intro X g3 gs T
  refine wpAnyH_ready (rs:=[4,6]) (by kernel_rfl) (by simp) ?_
  refine AllReadyH.cons rfl (fun K hK=> ?_) (AllReadyH.cons rfl (fun K hK=> ?_) AllReadyH.nil)
  ·go_simp
   refine(zq CU2 _ T.bel).mono ?_
   rintro e Y ⟨gu,O,rfl,hu,hO,bY⟩
   have T2:=T.mku bY hu hO
   clear hu hO bY
   refine hK.out _ _ (zq HH _ T2.bel) (fun hHeld=> ?_)
   clear hK K hHeld T
   try simp only[Act.put,List.getElem_toArray,List.getElem_cons_succ,List.getElem_cons_zero,List.setIfInBounds_toArray,List.set_cons_zero,List.set_cons_succ]
   revert T2
   revert gu
   revert gs
   revert g3
   revert Y
   exact k245
  ·go_simp
   have T2:=T.mk4
   refine hK.out _ _ (zq HH _ T2.bel) (fun hHeld=> ?_)
   clear hK K hHeld T
   try simp only[Act.put,List.getElem_toArray,List.getElem_cons_succ,List.getElem_cons_zero,List.setIfInBounds_toArray,List.set_cons_zero,List.set_cons_succ]
   generalize X.alloc (.cells #[.slice none 0 0] 60)=Y at T2⊢
   generalize X.heap.size=g4 at T2⊢
   revert T2
   revert gs
   revert g4
   revert g3
   revert Y
   exact k256
 ·intro X g4 gs T
  refine wpAnyH_ready (rs:=[4,5]) (by kernel_rfl) (by simp) ?_
  refine AllReadyH.cons rfl (fun K hK=> ?_) (AllReadyH.cons rfl (fun K hK=> ?_) AllReadyH.nil)
  ·go_simp
   refine(zq CU2 _ T.bel).mono ?_
   rintro e Y ⟨gu,O,rfl,hu,hO,bY⟩
   have T2:=T.mku bY hu hO
   clear hu hO bY
   refine hK.out _ _ (zq HH _ T2.bel) (fun hHeld=> ?_)
   clear hK K hHeld T
   try simp only[Act.put,List.getElem_toArray,List.getElem_cons_succ,List.getElem_cons_zero,List.setIfInBounds_toArray,List.set_cons_zero,List.set_cons_succ]
   revert T2
   revert gu
   revert gs
   revert g4
   revert Y
   exact k246
  ·go_simp
   have T2:=T.mk3
   refine hK.out _ _ (zq HH _ T2.bel) (fun hHeld=> ?_)
   clear hK K hHeld T
   try simp only[Act.put,List.getElem_toArray,List.getElem_cons_succ,List.getElem_cons_zero,List.setIfInBounds_toArray,List.set_cons_zero,List.set_cons_succ]
   generalize X.alloc (.cells #[.slice none 0 0] 90)=Y at T2⊢
   generalize X.heap.size=g3 at T2⊢
   revert T2
   revert gs
   revert g4
   revert g3
   revert Y
   exact k256
 ·intro X g3 gu T
  refine wpAnyH_ready (rs:=[2,6]) (by kernel_rfl) (by simp) ?_
  refine AllReadyH.cons rfl (fun K hK=> ?_) (AllReadyH.cons rfl (fun K hK=> ?_) AllReadyH.nil)
  ·go_simp
   have T2:=T.mks
   refine hK.out _ _ (zq HH _ T2.bel) (fun hHeld=> ?_)
   clear hK K hHeld T
   try simp only[Act.put,List.getElem_toArray,List.getElem_cons_succ,List.getElem_cons_zero,List.setIfInBounds_toArray,List.set_cons_zero,List.set_cons_succ]
   generalize X.alloc (.cells M 4)=Y at T2⊢
   generalize X.heap.size=gs at T2⊢
   revert T2
   revert gu
   revert gs
   revert g3
   revert Y
   exact k245
  ·go_simp
   have T2:=T.mk4
   refine hK.out _ _ (zq HH _ T2.bel) (fun hHeld=> ?_)
   clear hK K hHeld T
   try simp only[Act.put,List.getElem_toArray,List.getElem_cons_succ,List.getElem_cons_zero,List.setIfInBounds_toArray,List.set_cons_zero,List.set_cons_succ]
   generalize X.alloc (.cells #[.slice none 0 0] 60)=Y at T2⊢
   generalize X.heap.size=g4 at T2⊢
   revert T2
   revert gu
   revert g4
   revert g3
   revert Y
   exact k456
 ·intro X g4 gu T
  refine wpAnyH_ready (rs:=[2,5]) (by kernel_rfl) (by simp) ?_
  refine AllReadyH.cons rfl (fun K hK=> ?_) (AllReadyH.cons rfl (fun K hK=> ?_) AllReadyH.nil)
  ·go_simp
   have T2:=T.mks
   refine hK.out _ _ (zq HH _ T2.bel) (fun hHeld=> ?_)
   clear hK K hHeld T
   try simp only[Act.put,List.getElem_toArray,List.getElem_cons_succ,List.getElem_cons_zero,List.setIfInBounds_toArray,List.set_cons_zero,List.set_cons_succ]
   generalize X.alloc (.cells M 4)=Y at T2⊢
   generalize X.heap.size=gs at T2⊢
   revert T2
   revert gu
   revert gs
   revert g4
   revert Y
   exact k246
  ·go_simp
   have T2:=T.mk3
   refine hK.out _ _ (zq HH _ T2.bel) (fun hHeld=> ?_)
   clear hK K hHeld T
   try simp only[Act.put,List.getElem_toArray,List.getElem_cons_succ,List.getElem_cons_zero,List.setIfInBounds_toArray,List.set_cons_zero,List.set_cons_succ]
   generalize X.alloc (.cells #[.slice none 0 0] 90)=Y at T2⊢
   generalize X.heap.size=g3 at T2⊢
   revert T2
   revert gu
   revert g4
   revert g3
   revert Y
   exact k456
 ·intro X g3 g4 T
  refine wpAnyH_ready (rs:=[2,4]) (by kernel_rfl) (by simp) ?_
  refine AllReadyH.cons rfl (fun K hK=> ?_) (AllReadyH.cons rfl (fun K hK=> ?_) AllReadyH.nil)
  ·go_simp
   have T2:=T.mks
   refine hK.out _ _ (zq HH _ T2.bel) (fun hHeld=> ?_)
   clear hK K hHeld T
   try simp only[Act.put,List.getElem_toArray,List.getElem_cons_succ,List.getElem_cons_zero,List.setIfInBounds_toArray,List.set_cons_zero,List.set_cons_succ]
   generalize X.alloc (.cells M 4)=Y at T2⊢
   generalize X.heap.size=gs at T2⊢
   revert T2
   revert gs
   revert g4
   revert g3
   revert Y
   exact k256
  ·go_simp
   refine(zq CU2 _ T.bel).mono ?_
   rintro e Y ⟨gu,O,rfl,hu,hO,bY⟩
   have T2:=T.mku bY hu hO
   clear hu hO bY
   refine hK.out _ _ (zq HH _ T2.bel) (fun hHeld=> ?_)
   clear hK K hHeld T
   try simp only[Act.put,List.getElem_toArray,List.getElem_cons_succ,List.getElem_cons_zero,List.setIfInBounds_toArray,List.set_cons_zero,List.set_cons_succ]
   revert T2
   revert gu
   revert g4
   revert g3
   revert Y
   exact k456
 ·intro X g3 gs gu T
  refine wpAnyH_ready (rs:=[6]) (by kernel_rfl) (by simp) ?_
  refine AllReadyH.cons rfl (fun K hK=> ?_) AllReadyH.nil
  ·go_simp
   have T2:=T.mk4
   refine hK.out _ _ (zq HH _ T2.bel) (fun hHeld=> ?_)
   clear hK K hHeld T
   try simp only[Act.put,List.getElem_toArray,List.getElem_cons_succ,List.getElem_cons_zero,List.setIfInBounds_toArray,List.set_cons_zero,List.set_cons_succ]
   generalize X.alloc (.cells #[.slice none 0 0] 60)=Y at T2⊢
   generalize X.heap.size=g4 at T2⊢
   revert T2
   revert gu
   revert gs
   revert g4
   revert g3
   revert Y
   exact k2456
 ·intro X g4 gs gu T
  refine wpAnyH_ready (rs:=[5]) (by kernel_rfl) (by simp) ?_
  refine AllReadyH.cons rfl (fun K hK=> ?_) AllReadyH.nil
  ·go_simp
   have T2:=T.mk3
   refine hK.out _ _ (zq HH _ T2.bel) (fun hHeld=> ?_)
   clear hK K hHeld T
   try simp only[Act.put,List.getElem_toArray,List.getElem_cons_succ,List.getElem_cons_zero,List.setIfInBounds_toArray,List.set_cons_zero,List.set_cons_succ]
   generalize X.alloc (.cells #[.slice none 0 0] 90)=Y at T2⊢
   generalize X.heap.size=g3 at T2⊢
   revert T2
   revert gu
   revert gs
   revert g4
   revert g3
   revert Y
   exact k2456
 ·intro X g3 g4 gs T
  refine wpAnyH_ready (rs:=[4]) (by kernel_rfl) (by simp) ?_
  refine AllReadyH.cons rfl (fun K hK=> ?_) AllReadyH.nil
  ·go_simp
   refine(zq CU2 _ T.bel).mono ?_
   rintro e Y ⟨gu,O,rfl,hu,hO,bY⟩
   have T2:=T.mku bY hu hO
   clear hu hO bY
   refine hK.out _ _ (zq HH _ T2.bel) (fun hHeld=> ?_)
   clear hK K hHeld T
   try simp only[Act.put,List.getElem_toArray,List.getElem_cons_succ,List.getElem_cons_zero,List.setIfInBounds_toArray,List.set_cons_zero,List.set_cons_succ]
   revert T2
   revert gu
   revert gs
   revert g4
   revert g3
   revert Y
   exact k2456
 ·intro X g3 g4 gu T
  refine wpAnyH_ready (rs:=[2]) (by kernel_rfl) (by simp) ?_
  refine AllReadyH.cons rfl (fun K hK=> ?_) AllReadyH.nil
  ·go_simp
   have T2:=T.mks
   refine hK.out _ _ (zq HH _ T2.bel) (fun hHeld=> ?_)
   clear hK K hHeld T
   try simp only[Act.put,List.getElem_toArray,List.getElem_cons_succ,List.getElem_cons_zero,List.setIfInBounds_toArray,List.set_cons_zero,List.set_cons_succ]
   generalize X.alloc (.cells M 4)=Y at T2⊢
   generalize X.heap.size=gs at T2⊢
   revert T2
   revert gu
   revert gs
   revert g4
   revert g3
   revert Y
   exact k2456
 ·intro X g3 g4 gs gu T
  refine wpAnyH_ready (rs:=[7]) (by kernel_rfl) (by simp) ?_
  refine AllReadyH.cons rfl (fun K hK=> ?_) AllReadyH.nil
  ·have c:=Xk (T.f3 _ rfl).2
   have z:=fz1 (T.f3 _ rfl).2
   go_simp
   clear c z
   have T2:=T.st3
   refine hK.out _ _ (zq HH _ T2.bel) (fun hHeld=> ?_)
   clear hK K hHeld T
   try simp only[Act.put,List.getElem_toArray,List.getElem_cons_succ,List.getElem_cons_zero,List.setIfInBounds_toArray,List.set_cons_zero,List.set_cons_succ]
   generalize X.setCell ⟨g3,0,none⟩ (.slice (some ⟨gs,0,none⟩) N N)=Y at T2⊢
   revert T2
   revert gu
   revert gs
   revert g4
   revert g3
   revert Y
   exact k24567
 ·intro X g3 g4 gs gu T
  refine wpAnyH_ready (rs:=[8]) (by kernel_rfl) (by simp) ?_
  refine AllReadyH.cons rfl (fun K hK=> ?_) AllReadyH.nil
  ·have c:=Xk (T.f4 _ rfl).2
   have z:=fz1 (T.f4 _ rfl).2
   go_simp
   clear c z
   have T2:=T.st4
   refine hK.out _ _ (zq HH _ T2.bel) (fun hHeld=> ?_)
   clear hK K hHeld T
   try simp only[Act.put,List.getElem_toArray,List.getElem_cons_succ,List.getElem_cons_zero,List.setIfInBounds_toArray,List.set_cons_zero,List.set_cons_succ]
   generalize X.setCell ⟨g4,0,none⟩ (.slice (some ⟨gu,0,none⟩) N N)=Y at T2⊢
   revert T2
   revert gu
   revert gs
   revert g4
   revert g3
   revert Y
   exact k245678
 ·intro X g3 g4 gs gu T
  refine wpAnyH_done (by kernel_rfl) ?_ _
  have CA:=zk (fun(Y:World)=>allOf_l aP N cP Y (by omega))
  have CS:Hid (∀Y v,Below X.heap.size X Y→Ns Y v ((List.range N).map fun i:Nat=>(i:Int))→Calls Tryz.prog 86 #[.int .i64 (N:Nat),v,.func (.func 91) #[] #[.pointer (some ⟨g3,0,none⟩),.pointer (some ⟨w.heap.size,0,none⟩),.pointer (some ⟨g4,0,none⟩)]] Y fun e w'=>e= .returned (.tuple #[])∧∃S,BtV w' gs N S∧S.length=N∧(∀m:Nat,S.getD m false=true↔Tx P (m:Int))∧w'.cell? ⟨g3,0,none⟩=some (.slice (some ⟨gs,0,none⟩) N N)∧w'.cell? ⟨w.heap.size,0,none⟩=some (.slice aP N cP)∧Below w.heap.size Y w'):=by
   intro Y v b hv
   have e:=zq HNN
   subst e
   exact spreadT aP cP P w W X M g3 g4 gs gu (zq HP) (zq HG) hM hsz (zq BW) (zq HX) T Y v b hv
  have z:=zq HH _ T.bel
  have HZ:Hid (∀Y,Below X.heap.size X Y→Y.cell? ⟨w.heap.size,0,none⟩=some (.slice aP N cP)):=fun Y b=>zq HH _ (Xj T.bel b)
  have BX:=zk (Xj (zq BW) T.bel)
  have lgs:w.heap.size≤gs:=by have:=(T.fs gs rfl).1;omega
  clear T hr CU2
  go_wp2_with fail
  go_region_held3 (fun w'=>w'.cell? ⟨w.heap.size,0,none⟩=some (.slice aP N cP))
   (first|exact z|exact cz|exact zq HZ _ b2)
   (first
    |(go_at_call 90;refine(zq CA _).mono ?_;rintro e Y ⟨v,rfl,own,bY⟩;have b2:=Xj (drB (w:=X)) bY;have nv:=Ns.of_own own;clear own bY)
    |(go_at_call 86;refine(zq CS _ _ b2 nv).mono ?_;rintro e Z ⟨rfl,S,hS,hl,hx,c3,cz,bZ⟩))
  all_goals (
   have HS:=zk hS
   have HXX:=zk hx
   have HL:=zk hl
   have HBZ:=zk ((Xj (zq BX) b2).trans bZ)
   clear hS hx hl bZ b2 nv CS CA HZ)
  all_goals (go_wp2_with fail)
  all_goals go_ret
  all_goals (
   refine⟨_,S,rfl,?_,zq HL,zq HXX,zq HBZ⟩
   show World.ownsRow _ _ _ _ _ _ _
   rw[zq HL]
   exact own_low (zq HS) lgs)
def makeS (g:GR) (S:List Bool):Prop:=(gramB g.1=true∧S.length=g.1.length∧∀m:Nat,S.getD m false=true↔Tx g.1 (m:Int))∨(gramB g.1=false∧S=[])
def MakesR (w:World) (g:GR) (e:Ending) (w':World):Prop:=∃v S,e= .returned v∧BIR w' w.heap.size v S∧makeS g S∧Below w.heap.size w w'
theorem Makes_l (v:Value) (g:GR) (w:World) (h:GrM w v g):Calls Tryz.prog 29 #[v] w fun e w'=>MakesR w g e w':=by
 have CM:=zk (fun W (bW:Below w.heap.size w W)=>fMayM_l v g W (h.later bW))
 obtain⟨a,c,aK,cK,rfl,hp,-⟩:=id h
 cases hg:gramB g.1 with
 |false=>
  rw[hg]at CM
  have HF:Hid (∀W,Below w.heap.size w W→MakesR w g (.returned (.slice none 0 0)) W):=fun W b=>⟨_,[],rfl,BIR.nil _ _,.inr ⟨hg,rfl⟩,b⟩
  clear h hp
  generalize g.1.length=nP at*
  generalize g.2.length=nK at*
  clear hg
  go_enter Tryz.func29,Tryz.ntmps29
  go_wp2_with fail
  refine(zq CM _ (Below.new1 _)).mono ?_
  rintro e w1 ⟨rfl,b1⟩
  clear CM
  go_wp2_with fail
  go_ret
  exact zq HF _ (Xj (Below.new1 _) b1)
 |true=>
  rw[hg]at CM
  have CW:=zk (fun W (bW:Below w.heap.size w W)=>withText_l a c g.1 W (hp.later bW) hg)
  have HF:Hid (∀v S W,Below w.heap.size w W→BIR W w.heap.size v S→S.length=g.1.length→(∀m:Nat,S.getD m false=true↔Tx g.1 (m:Int))→MakesR w g (.returned v) W):=
   fun v S W b h2 h3 h4=>⟨v,S,rfl,h2,.inl ⟨hg,h3,h4⟩,b⟩
  clear h hp
  generalize g.1.length=nP at*
  generalize g.2.length=nK at*
  clear hg
  go_enter Tryz.func29,Tryz.ntmps29
  go_wp2_with fail
  have G0:=heap_alloc_new w (.cells #[.slice a nP c,.slice aK nK cK] 25)
  refine(zq CM _ (Below.new1 _)).mono ?_
  rintro e w1 ⟨rfl,b1⟩
  have G1:=(b1.block _ (Array.getElem?_eq_some_iff.1 G0).1).trans G0
  obtain⟨y0,y1⟩:=XX G1
  have B1:=zk (Xj (Below.new1 _) b1)
  clear CM G0 G1 b1
  go_wp2_with fail
  refine(zq CW _ (zq B1)).mono ?_
  rintro e w2 ⟨v,S,rfl,hv,hl,hm,b2⟩
  have FIN:=zk (zq HF v S w2 (Xj (zq B1) b2) (own_low hv (zq B1).size) hl hm)
  clear CW hv hl hm b2 B1 HF
  go_wp2_with fail
  go_ret
  exact zq FIN
def FirstAt (l:List Bool) (y:Bool) (r:Int):Prop:=(∃k:Nat,r=(k:Int)∧l[k]? =some y∧∀j,j<k→l[j]?≠some y)∨(r= -1∧∀j:Nat,l[j]?≠some y)
theorem indexB_l (v:Value) (l:List Bool) (y:Bool) (w:World) (h:CeV Value.bool w v l) (hl:l.length≤1000000):
  Calls Tryz.prog 59 #[v,.bool y] w fun e w'=>∃r:Int,e= .returned (.int .i64 r)∧FirstAt l y r∧w'=w:=by
 obtain⟨a,c,rfl,hc1,hc2,h3⟩:=h
 unfold maxLen at hc2
 have H3:=zk h3
 clear h3
 generalize hn:l.length=n at*
 have HN:=zk hn
 clear hn
 go_enter Tryz.func59,Tryz.ntmps59
 go_wp2_with fail
 go_loopw [8] (fun i wr=>∃k:Nat,k≤n∧i= .int .i64 (k:Int)∧Hid (∀j,j<k→l[j]?≠some y)∧wr=w) (fun i _=>n-(intOf i).toNat)
 case atStart=>exact⟨0,Nat.zero_le _,rfl,fun j hj=>absurd hj (Nat.not_lt_zero _),rfl⟩
 case round=>
  obtain⟨k,hk,rfl,hA,hw⟩:=hrel
  subst hw
  by_cases hlt:k<n
  ·obtain⟨x,hx⟩:∃x,l[k]? =some x:=⟨l[k]'(by have:=zq HN;omega),List.getElem?_eq_getElem _⟩
   obtain⟨g,off,rfl,hg,q⟩:=zq H3 k x hx
   have HX:=zk hx
   clear hx
   by_cases hxy:x=y
   ·subst hxy
    go_wp2_with fail
    go_ret
    exact⟨k,rfl,.inl ⟨k,rfl,zq HX,zq hA⟩,rfl⟩
   ·have hb:(y==x)=false:=by simpa using fun e=>hxy (by rw[e])
    have hb2:(x==y)=false:=by simpa using hxy
    go_wp2_with fail
    go_roundw
    case rel=>exact⟨k+1,by omega,by simp,fun j hj=>by
     rcases Nat.lt_succ_iff_lt_or_eq.1 hj with h|h
     ·exact zq hA j h
     ·subst h;rw[zq HX];intro e;exact hxy (Option.some.inj e),trivial⟩
    case measure=>simp only[intOf];omega
  ·obtain rfl:k=n:=by omega
   go_wp2_with fail
   go_ret
   refine⟨-1,rfl,.inr ⟨rfl,fun j hj=> ?_⟩,rfl⟩
   have:=(List.getElem?_eq_some_iff.1 hj).1
   exact absurd hj (zq hA j (by rw[←zq HN];exact this))
theorem fromS.len {g:GR} {n:Int} {S:List Bool} (h:fromS g n S):S.length≤60:=by
 rcases h with ⟨hg,-,-,h,-⟩|⟨-,rfl⟩
 ·have:=(Xv hg).2.1;omega
 ·exact Nat.zero_le _
theorem makeS.len {g:GR} {S:List Bool} (h:makeS g S):S.length≤60:=by
 rcases h with ⟨hg,h,-⟩|⟨-,rfl⟩
 ·have:=(Xv hg).2.1;omega
 ·exact Nat.zero_le _
theorem bir_form {w:World} {base:Nat} {v:Value} {S:List Bool} (h:BIR w base v S):(v= .slice none 0 0∧S=[])∨∃g c,v= .slice (some ⟨g,0,none⟩) S.length c∧base≤g∧g<w.heap.size∧S.length≤c∧c≤maxLen∧BR w base g S.length c S:=by
 rcases id h.2 with ⟨e,h0⟩|⟨g,cap,cur,rfl,hb,hg,hn,hm,-⟩
 ·exact .inl ⟨e,List.eq_nil_of_length_eq_zero h0⟩
 ·exact .inr ⟨g,cap,rfl,hb,(Array.getElem?_eq_some_iff.1 hg).1,hn,hm,h⟩
theorem Lost_l (v:Value) (g:GR) (w:World) (h:GrM w v g):Calls Tryz.prog 31 #[v] w fun e w'=>∃(r:Int) (S:List Bool),e= .returned (.int .i64 r)∧fromS g 0 S∧FirstAt (S.set 0 true) false r∧Below w.heap.size w w':=by
 have CF:=zk (fun W (bW:Below w.heap.size w W)=>From_l v g 0 W (h.later bW))
 obtain⟨a,c,aK,cK,rfl,hp,-⟩:=id h
 clear h hp
 generalize g.1.length=nP at*
 generalize g.2.length=nK at*
 go_enter Tryz.func31,Tryz.ntmps31
 go_wp2_with fail
 refine(zq CF _ (Below.new1 _)).mono ?_
 rintro e w1 ⟨v,S,rfl,hv,hs,b1⟩
 have hl:=hs.len
 have HS:=zk hs
 have B1:=zk (Xj (Below.new1 _) b1)
 clear CF hs b1
 have hz:w.heap.size≤(w.alloc (.cells #[.slice a nP c,.slice aK nK cK] 25)).heap.size:=by simp
 have hv2:BIR w1 w.heap.size v S:=own_low hv hz
 clear hv hz
 rcases bir_form hv2 with ⟨rfl,rfl⟩|⟨gs,cs,rfl,hb,hlt,hc1,hc2,hB⟩
 ·have ce:CeV Value.bool w1 (.slice none 0 0) ([]:List Bool):=ceOwn hv2
  have CI:=zk (indexB_l _ [] false w1 ce (Nat.zero_le _))
  clear hv2 ce
  go_wp2_with fail
  refine(zq CI).mono ?_
  rintro e w2 ⟨r,rfl,hr,rfl⟩
  have HR:=zk hr
  clear CI hr
  go_wp2_with fail
  go_ret
  exact⟨r,[],rfl,zq HS,zq HR,zq B1⟩
 ·unfold maxLen at hc2
  by_cases h0:S.length=0
  ·have e0:=List.eq_nil_of_length_eq_zero h0
   subst e0
   have CI:=zk (indexB_l _ [] false w1 (ceOwn hv2) (Nat.zero_le _))
   clear hv2 hB hc1 hc2
   go_wp2_with fail
   refine(zq CI).mono ?_
   rintro e w2 ⟨r,rfl,hr,rfl⟩
   have HR:=zk hr
   clear CI hr
   go_wp2_with fail
   go_ret
   exact⟨r,[],rfl,zq HS,zq HR,zq B1⟩
  ·have cq:=BR.at hB (show 0<S.length by omega)
   have cz:=BR.fz hB 0
   have hB2:=BR.set hB 0 true
   have BF:Hid (Below w.heap.size w (w1.setCell ⟨gs,0,none⟩ (.bool true))):=(zq B1).setCell (p:=⟨gs,0,none⟩) hb _
   have HC:CeV Value.bool (w1.setCell ⟨gs,0,none⟩ (.bool true)) (.slice (some ⟨gs,0,none⟩) S.length cs) (S.set 0 true):=by
    have:BIR (w1.setCell ⟨gs,0,none⟩ (.bool true)) w.heap.size (.slice (some ⟨gs,0,none⟩) S.length cs) (S.set 0 true):=by
     show World.ownsRow _ _ _ _ _ _ _
     rw[List.length_set];exact hB2
    exact ceOwn this
   have CI:=zk (indexB_l _ _ false _ HC (by rw[List.length_set];omega))
   clear hv2 hB hB2 HC
   generalize hn:S.length=n at*
   have p1:decide ((0:Int)<(n:Int))=true:=decide_eq_true (by omega)
   have p2:decide (0<n)=true:=decide_eq_true (by omega)
   clear hn
   go_wp2_with fail
   refine(zq CI).mono ?_
   rintro e w2 ⟨r,rfl,hr,rfl⟩
   have HR:=zk hr
   clear CI hr
   go_wp2_with fail
   go_ret
   exact⟨r,S,rfl,zq HS,zq HR,zq BF⟩
theorem Vain_l (v:Value) (g:GR) (w:World) (h:GrM w v g):Calls Tryz.prog 33 #[v] w fun e w'=>∃(r:Int) (S:List Bool),e= .returned (.int .i64 r)∧makeS g S∧FirstAt S false r∧Below w.heap.size w w':=by
 have CF:=zk (fun W (bW:Below w.heap.size w W)=>Makes_l v g W (h.later bW))
 obtain⟨a,c,aK,cK,rfl,hp,-⟩:=id h
 clear h hp
 generalize g.1.length=nP at*
 generalize g.2.length=nK at*
 go_enter Tryz.func33,Tryz.ntmps33
 go_wp2_with fail
 refine(zq CF _ (Below.new1 _)).mono ?_
 rintro e w1 ⟨v,S,rfl,hv,hs,b1⟩
 have hl:=hs.len
 have HS:=zk hs
 have B1:=zk (Xj (Below.new1 _) b1)
 have CI:=zk (indexB_l _ S false w1 (ceOwn hv) (by omega))
 obtain⟨a1,n1,c1,rfl⟩:=own_form3 hv
 clear CF hs b1 hv
 go_wp2_with fail
 refine(zq CI).mono ?_
 rintro e w2 ⟨r,rfl,hr,rfl⟩
 have HR:=zk hr
 clear CI hr
 go_wp2_with fail
 go_ret
 exact⟨r,S,rfl,zq HS,zq HR,zq B1⟩
end Go.Proofs.YtcblkmlcbedomaaGreatDoor.Rc

/- Parts of the proof that stand ahead of it (ReachLost 6). -/
import Derived.Test.YtcblkmlcbedomaaGreatDoorRM12
import Derived.Test.YtcblkmlcbedomaaGreatDoorReachLostM4
set_option linter.unusedVariables false
set_option linter.unusedSimpArgs false
set_option maxRecDepth 20000
set_option maxHeartbeats 16000000
namespace Go.Proofs.YtcblkmlcbedomaaGreatDoor.Rc
open Go.RowKit Go.Shelf Go.Proofs.YtcblkmlcbedomaaGreatDoor.T Go.Proofs.YtcblkmlcbedomaaGreatDoor.R Go.Proofs.YtcblkmlcbedomaaGreatDoor.F Go.Proofs.YtcblkmlcbedomaaGreatDoor.Nl Go.Proofs.YtcblkmlcbedomaaGreatDoor.K
theorem same_len {S S':List Bool} (h:S.length=S'.length) (k:∀m,S.getD m false=true↔S'.getD m false=true):S=S':=by
 apply List.ext_getElem h
 intro i h1 h2
 have:=k i
 rw[List.getD_eq_getElem?_getD,List.getD_eq_getElem?_getD,List.getElem?_eq_getElem h1,List.getElem?_eq_getElem h2]at this
 simp only[Option.getD_some]at this
 exact Bool.eq_iff_iff.2 this
theorem fromS.uniq {g:GR} {n:Int} {S S':List Bool} (h:fromS g n S) (h':fromS g n S'):S=S':=by
 rcases h with ⟨a,b,c,h1,h2⟩|⟨a,rfl⟩
 ·rcases h' with ⟨-,-,-,h3,h4⟩|⟨a',-⟩
  ·exact same_len (by omega) (fun m=>(h2 m).trans (h4 m).symm)
  ·exact absurd ⟨a,b,c⟩ a'
 ·rcases h' with ⟨a',b,c,-⟩|⟨-,rfl⟩
  ·exact absurd ⟨a',b,c⟩ a
  ·rfl
theorem fromS.all {g:GR} {n:Int} {S:List Bool} (h:fromS g n S) (hg:gramB g.1=true) (h0:0≤n) (hn:n<(g.1.length:Int)):S.length=g.1.length:=by
 rcases h with ⟨-,-,-,h,-⟩|⟨a,-⟩
 ·exact h
 ·exact absurd ⟨hg,h0,hn⟩ a
def LostIs (S:List Bool) (r:Int):Prop:=(∃k:Nat,r=(k:Int)∧1≤k∧k<S.length∧S.getD k false=false∧∀j,1≤j→j<k→S.getD j false=true)∨(r= -1∧∀j,1≤j→j<S.length→S.getD j false=true)
theorem set_at {S:List Bool} {j:Nat} (hj:1≤j):(S.set 0 true)[j]? =S[j]? :=by
 rw[List.getElem?_set_ne (by omega)]
theorem not_no {S:List Bool} {j:Nat} (hj:j<S.length) (h:S[j]?≠some false):S.getD j false=true:=by
 rw[List.getD_eq_getElem?_getD]
 rw[List.getElem?_eq_getElem hj]at h⊢
 cases e:S[j]with
 |true=>rfl
 |false=>rw[e]at h;exact absurd rfl h
theorem lost_is {S:List Bool} {r:Int} (h1:1≤S.length) (h:FirstAt (S.set 0 true) false r):LostIs S r:=by
 rcases h with ⟨k,rfl,hk,hj⟩|⟨rfl,hj⟩
 ·have k1:1≤k:=by
   rcases Nat.eq_zero_or_pos k with h|h
   ·subst h
    rw[List.getElem?_set_self (by omega)]at hk
    cases hk
   ·exact h
  rw[set_at k1]at hk
  have hl:=(List.getElem?_eq_some_iff.1 hk).1
  refine .inl ⟨k,rfl,k1,hl,by rw[List.getD_eq_getElem?_getD,hk];rfl,fun j j1 j2=>not_no (by omega) (by have:=hj j j2;rwa [set_at j1]at this)⟩
 ·exact .inr ⟨rfl,fun j j1 j2=>not_no j2 (by have:=hj j;rwa [set_at j1]at this)⟩
theorem LostIs.rng {S:List Bool} {r:Int} (h:LostIs S r):(r==0)=false∧decide ((S.length:Int)≤r)=false∧decide (r< -1)=false:=by
 rcases h with ⟨k,rfl,h1,h2,-⟩|⟨rfl,-⟩
 ·exact⟨beq_eq_false_iff_ne.2 (by omega),decide_eq_false (by omega),decide_eq_false (by omega)⟩
 ·exact⟨rfl,decide_eq_false (by omega),rfl⟩
theorem LostIs.at {S:List Bool} {r:Int} {k:Nat} (h:LostIs S r) (k1:1≤k) (hk:k<S.length) (hA:∀j,1≤j→j<k→S.getD j false=true) (hn:S.getD k false=false):r=(k:Int):=by
 rcases h with ⟨i,rfl,h1,h2,h3,h4⟩|⟨-,h4⟩
 ·rcases Nat.lt_trichotomy i k with h|h|h
  ·have:=hA i h1 h;rw[h3]at this;cases this
  ·rw[h]
  ·have:=h4 k k1 h;rw[hn]at this;cases this
 ·have:=h4 k k1 hk;rw[hn]at this;cases this
theorem LostIs.no {S:List Bool} {r:Int} (h:LostIs S r) (hA:∀j,1≤j→j<S.length→S.getD j false=true):r= -1:=by
 rcases h with ⟨i,rfl,h1,h2,h3,h4⟩|⟨h,-⟩
 ·have:=hA i h1 h2;rw[h3]at this;cases this
 ·exact h
theorem reachLost_walk (v:Value) (g:GR) (w:World) (h:GrM w v g) (hf:∀p∈g.1,∀l∈p.1,∀s∈l,yQ s.2.2):
  Calls Tryz.prog 12 #[v] w fun e w'=>e= .returned (.bool true)∧Below w.heap.size w w':=by
 have CA:=zk (fun W=>awake11_l W)
 have CM:=zk (fun W (bW:Below w.heap.size w W)=>fMayM_l v g W (h.later bW))
 have CL:=zk (fun W (bW:Below w.heap.size w W)=>Lost_l v g W (h.later bW))
 have CR:=zk (fun W (bW:Below w.heap.size w W)=>From_l v g 0 W (h.later bW))
 obtain⟨a,c,aK,cK,rfl,hp,-⟩:=id h
 have CF:=zk (fun W (bW:Below w.heap.size w W)=>few_l a c g.2.length cK aK g.1 W ((hp.later bW).prl hf))
 generalize hnK:g.2.length=nK at*
 generalize hnP:g.1.length=nP at*
 have HNP:=zk hnP
 clear h hp hf hnK hnP
 go_enter Tryz.func12,Tryz.ntmps12
 go_wp2_with fail
 have G0:=heap_alloc_new w (.cells #[.slice a nP c,.slice aK nK cK] 25)
 refine(zq CA _).mono ?_
 clear CA
 rintro e w1 ⟨rfl,b1⟩
 have G1:=(b1.block _ (Array.getElem?_eq_some_iff.1 G0).1).trans G0
 obtain⟨y0,y1⟩:=XX G1
 have B1:=zk (Xj (Below.new1 _) b1)
 clear b1 G0
 go_wp2_with fail
 refine(zq CF _ (zq B1)).mono ?_
 clear CF
 rintro e w2 ⟨⟨r,rfl⟩,b2⟩
 have G2:=(b2.block _ (Array.getElem?_eq_some_iff.1 G1).1).trans G1
 have B2:=zk (Xj (zq B1) b2)
 clear b2 G1 B1 y0 y1
 obtain⟨y0,y1⟩:=XX G2
 cases r with
 |false=>
  go_wp2_with fail
  go_ret
  exact⟨rfl,zq B2⟩
 |true=>
  go_wp2_with fail
  refine(zq CM _ (zq B2)).mono ?_
  clear CM
  rintro e w3 ⟨rfl,b3⟩
  have G3:=(b3.block _ (Array.getElem?_eq_some_iff.1 G2).1).trans G2
  have B3:=zk (Xj (zq B2) b3)
  clear b3 G2 B2 y0 y1
  obtain⟨y0,y1⟩:=XX G3
  cases hg:gramB g.1 with
  |false=>
   go_wp2_with fail
   go_ret
   exact⟨rfl,zq B3⟩
  |true=>
   have H1:=(Xv hg).1
   have H60:=(Xv hg).2.1
   have hn1:1≤nP:=by rw[←zq HNP];exact H1
   have hn60:nP≤60:=by rw[←zq HNP];exact H60
   have HG:=zk hg
   clear hg H1 H60
   go_wp2_with fail
   refine(zq CL _ (zq B3)).mono ?_
   clear CL
   rintro e w4 ⟨r,S1,rfl,h1,hr,b4⟩
   have G4:=(b4.block _ (Array.getElem?_eq_some_iff.1 G3).1).trans G3
   have B4:=zk (Xj (zq B3) b4)
   have K1:=zk h1
   have KR:=zk hr
   clear G3 y0 y1 b4 h1 hr B3
   obtain⟨y0,y1⟩:=XX G4
   go_wp2_with fail
   refine(zq CR _ (zq B4)).mono ?_
   clear CR
   rintro e w5 ⟨v5,S,rfl,hv,hS,b5⟩
   have G5:=(b5.block _ (Array.getElem?_eq_some_iff.1 G4).1).trans G4
   have B5:=zk (Xj (zq B4) b5)
   have hl:=hS.all (zq HG) (Int.le_refl 0) (by rw[zq HNP];omega)
   rw[zq HNP]at hl
   have hL:=lost_is (by have:=(zq K1).all (zq HG) (Int.le_refl 0) (by rw[zq HNP];omega);rw[zq HNP]at this;omega) (zq KR)
   have es:=(zq K1).uniq hS
   subst es
   obtain⟨r0,r1,r2⟩:=hL.rng
   have HL:=zk hL
   rcases bir_form hv with ⟨-,rfl⟩|⟨gs,cs,rfl,hb,hlt5,hc1,hc2,hB⟩
   ·exact absurd hl (by simp;omega)
   unfold maxLen at hc2
   have TB:Hid (BR w5 w4.heap.size gs S1.length cs S1):=hB
   rw[hl]at TB hc1 r1⊢
   have HLN:=zk hl
   clear G4 y0 y1 b5 hv hS hl hL K1 KR hb hlt5 hB B4
   obtain⟨y0,y1⟩:=XX G5
   clear G5
   have bz:((nP:Int)==(nP:Int))=true:=beq_self_eq_true _
   go_wp2_with fail
   go_loopw [7] (fun i wr=>∃k:Nat,1≤k∧k≤nP∧i= .int .i64 (k:Int)∧Hid (∀j,1≤j→j<k→S1.getD j false=true)∧wr=w5) (fun i _=>nP-(intOf i).toNat)
   case atStart=>exact⟨1,Nat.le_refl _,hn1,rfl,fun j h1 h2=>by omega,rfl⟩
   case round=>
    obtain⟨k,k1,hk,rfl,hA,rfl⟩:=hrel
    by_cases hlt:k<nP
    ·have tr:=BR.at (zq TB) hlt
     cases hsk:S1.getD k false with
     |true=>
      rw[hsk]at tr
      have HSK:=zk hsk
      clear hsk
      go_wp2_with fail
      exact⟨⟨k+1,by omega,by omega,by simp,fun j j1 j2=>by
       rcases Nat.lt_succ_iff_lt_or_eq.1 j2 with h|h
       ·exact zq hA j j1 h
       ·subst h;exact zq HSK,trivial⟩,by simp[intOf];omega⟩
     |false=>
      rw[hsk]at tr
      have er:=(zq HL).at k1 (by rw[zq HLN];exact hlt) (zq hA) hsk
      clear hsk
      subst er
      go_wp2_with fail
      go_ret
      exact⟨rfl,zq B5⟩
    ·obtain rfl:k=nP:=by omega
     have er:=(zq HL).no (by rw[zq HLN];exact zq hA)
     subst er
     go_wp2_with fail
     go_ret
     exact⟨rfl,zq B5⟩
end Go.Proofs.YtcblkmlcbedomaaGreatDoor.Rc

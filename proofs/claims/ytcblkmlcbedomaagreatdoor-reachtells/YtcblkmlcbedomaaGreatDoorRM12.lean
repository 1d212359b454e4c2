/- Parts of the proof that stand ahead of it (R 12). -/
import Derived.Test.YtcblkmlcbedomaaGreatDoorRM11
set_option linter.unusedVariables false
set_option linter.unusedSimpArgs false
set_option maxRecDepth 20000
set_option maxHeartbeats 16000000
namespace Go.Proofs.YtcblkmlcbedomaaGreatDoor.Rc
open Go.RowKit Go.Shelf Go.Proofs.YtcblkmlcbedomaaGreatDoor.T Go.Proofs.YtcblkmlcbedomaaGreatDoor.R Go.Proofs.YtcblkmlcbedomaaGreatDoor.F Go.Proofs.YtcblkmlcbedomaaGreatDoor.Nl Go.Proofs.YtcblkmlcbedomaaGreatDoor.K
def tC:List Int:=[97,32,61,32,34,120,34,59,32,98,32,61,32,97,59]
def fC:List (List Int)×List RU:=([],[([97],0,mk 1 [120] [] [] 4,[],0),([98],0,mk 0 [97] [] [] 13,[],9)])
def gC:GR:=([([[(0,[(120,120)],0)]],0,[]),([[(2,[],0)]],0,[])],[])
def tD:List Int:=[97,32,61,32,97,32,34,120,34,59]
def fD:List (List Int)×List RU:=([],[([97],0,mk 4 [] [] [mk 0 [97] [] [] 4,mk 1 [120] [] [] 6] 4,[],0)])
def gD:GR:=([([[(2,[],0),(0,[(120,120)],0)]],0,[])],[])
set_option maxRecDepth 100000 in
theorem fileC:fileL tC= .inr fC:=by kernel_rfl
set_option maxRecDepth 100000 in
theorem flatC:flatL 4 fC= .inr gC:=by kernel_rfl
theorem fokC:fokB 4 fC=true:=by kernel_rfl
theorem mayC:gramB gC.1=true:=by kernel_rfl
theorem bytesC:U.zv tC:=by
 intro z hz
 simp[tC]at hz
 omega
set_option maxRecDepth 100000 in
theorem fileD:fileL tD= .inr fD:=by kernel_rfl
set_option maxRecDepth 100000 in
theorem flatD:flatL 4 fD= .inr gD:=by kernel_rfl
theorem fokD:fokB 4 fD=true:=by kernel_rfl
theorem mayD:gramB gD.1=true:=by kernel_rfl
theorem bytesD:U.zv tD:=by
 intro z hz
 simp[tD]at hz
 omega
theorem syC0:symsN gC.1 0=[]:=by kernel_rfl
theorem syC1:symsN gC.1 1=[0]:=by kernel_rfl
theorem syC (n:Nat) {x:Int} (h:x∈symsN gC.1 n):n=1∧x=0:=by
 match n,h with
 |0,h=>rw[syC0]at h;cases h
 |1,h=>rw[syC1]at h;simp at h;exact⟨rfl,h⟩
 |n+2,h=>
  have:symsN gC.1 (n+2)=[]:=rfl
  rw[this]at h;cases h
theorem wiC {n:Nat} {x:Int}:Wi gC.1 n x↔n=1∧x=0:=by
 constructor
 ·rintro⟨k,h⟩
  cases k with
  |zero=>exact syC n h
  |succ k=>
   obtain⟨m,h1,h2⟩:=h
   obtain⟨rfl,rfl⟩:=syC m h2
   have key:∀(k n:Nat),¬wi gC.1 k n ((1:Nat):Int):=by
    intro k n h
    cases k with
    |zero=>have:=(syC n h).2;omega
    |succ k=>obtain⟨m,-,h⟩:=h;have:=(syC m h).2;omega
   exact absurd h1 (key k n)
 ·rintro⟨rfl,rfl⟩
  exact Wi.one (by rw[syC1];simp)
theorem two {S:List Bool} (h:S.length=2):S=[S.getD 0 false,S.getD 1 false]:=by
 match S,h with
 | [a,b],_=>rfl
theorem fromC1 {S:List Bool} (h:fromS gC 1 S):S=[true,false]:=by
 rcases h with ⟨-,-,-,hl,hm⟩|⟨hn,-⟩
 ·have e0:S.getD 0 false=true:=(hm 0).2 (wiC.2 ⟨rfl,rfl⟩)
  have e1:S.getD 1 false=false:=by
   cases e:S.getD 1 false with
   |false=>rfl
   |true=>have:=(wiC.1 ((hm 1).1 e)).2;omega
  rw[two hl,e0,e1]
 ·exact absurd ⟨mayC,by decide,by decide⟩ hn
theorem fromC0 {S:List Bool} (h:fromS gC 0 S):S=[false,false]:=by
 rcases h with ⟨-,-,-,hl,hm⟩|⟨hn,-⟩
 ·have e:∀m,S.getD m false=false:=fun m=>by
   cases e:S.getD m false with
   |false=>rfl
   |true=>have:=(wiC.1 ((hm m).1 e)).1;cases this
  rw[two hl,e 0,e 1]
 ·exact absurd ⟨mayC,by decide,by decide⟩ hn
theorem lostC {S:List Bool} {r:Int} (h:fromS gC 0 S) (hr:FirstAt (S.set 0 true) false r):r=1:=by
 rw[fromC0 h]at hr
 rcases hr with ⟨k,rfl,h1,h2⟩|⟨-,h2⟩
 ·match k,h1,h2 with
  |0,h1,_=>cases h1
  |1,_,_=>rfl
  |k+2,h1,_=>cases h1
 ·exact absurd rfl (h2 1)
theorem vainC {S:List Bool} {r:Int} (h:makeS gC S) (hr:FirstAt S false r):r= -1:=by
 rcases h with ⟨-,hl,hm⟩|⟨hn,-⟩
 ·have t0:Tx gC.1 ((0:Nat):Int):=Tx.of ⟨_,rfl,_,List.mem_singleton.2 rfl,fun s hs=>by rw[List.mem_singleton.1 hs];exact Nat.zero_lt_one⟩
  have t1:Tx gC.1 ((1:Nat):Int):=Tx.of ⟨_,rfl,_,List.mem_singleton.2 rfl,fun s hs=>by rw[List.mem_singleton.1 hs];exact t0⟩
  rw[two hl,(hm 0).2 t0,(hm 1).2 t1]at hr
  rcases hr with ⟨k,rfl,h1,h2⟩|⟨e,-⟩
  ·match k,h1 with
   |0,h1=>cases h1
   |1,h1=>cases h1
   |k+2,h1=>cases h1
  ·exact e
 ·rw[mayC]at hn;cases hn
theorem vainD {S:List Bool} {r:Int} (h:makeS gD S) (hr:FirstAt S false r):r=0:=by
 rcases h with ⟨-,hl,hm⟩|⟨hn,-⟩
 ·have no:¬Tx gD.1 ((0:Nat):Int):=fun h=>by
   refine Tx.least (T:=fun _=>False) (fun n ⟨p,hp,a,ha,hs⟩=> ?_) h
   match n,hp with
   |0,hp=>
    cases hp
    rw[List.mem_singleton.1 ha]at hs
    exact hs (2,[],0) (by simp)
   |n+1,hp=>cases hp
  have e:S=[false]:=by
   match S,hl with
   | [a],_=>
    cases a with
    |false=>rfl
    |true=>exact absurd ((hm 0).1 rfl) no
  subst e
  rcases hr with ⟨k,rfl,h1,h2⟩|⟨-,h2⟩
  ·match k,h1 with
   |0,h1=>rfl
   |k+1,h1=>cases h1
  ·exact absurd rfl (h2 0)
 ·rw[mayD]at hn;cases hn
theorem text2_l (s:ByteArray) (t:List Int) (f:List (List Int)×List RU) (g:GR) (hs:St s t) (hl:t.length≤100000000) (hf:fileL t= .inr f) (ho:fokB 4 f=true) (hg:flatL 4 f= .inr g) (W:World):
  Calls Tryz.prog 36 #[.string s] W fun e w1=>∃aK cK aR cR,e= .returned (.tuple #[.agg #[.slice aK f.1.length cK,.slice aR f.2.length cR],.int .i64 (t.length:Nat),.int .i64 0])∧Below W.heap.size W w1∧
   ∀X,Below w1.heap.size w1 X→Calls Tryz.prog 37 #[.agg #[.slice aK f.1.length cK,.slice aR f.2.length cR]] X fun e w2=>∃a c b d,e= .returned (.tuple #[.agg #[.slice a g.1.length c,.slice b g.2.length d],.int .i64 0,.int .i64 0])∧GramV (New X w2) w2 (.agg #[.slice a g.1.length c,.slice b g.2.length d]) g∧Below X.heap.size X w2:=by
 refine(file_any s t hs hl W).mono ?_
 rintro e w1 ⟨fr,b1⟩
 obtain⟨v1,rfl,fv⟩:=file_is fr hf
 obtain⟨aK,cK,aR,cR,rfl,-⟩:=id fv
 refine⟨aK,cK,aR,cR,rfl,b1,fun X bX=> ?_⟩
 refine(of_file 4 (w:=X) (D:=New W w1) (fv.kept (fun g hg=>⟨hg,bX.block g hg.2⟩) (KR.of bX)) (fun g hg=>Nat.lt_of_lt_of_le hg.2 bX.size) (fok_yes ho)).mono ?_
 rintro e w2 ⟨or,b2⟩
 obtain⟨v2,rfl,gv⟩:=of_is or hg
 have gm:=grM_of gv (fun a n c l h=>⟨h.2.1,h.2.2.1⟩)
 obtain⟨a,c,b,d,rfl,-⟩:=id gm
 exact⟨a,c,b,d,rfl,gv,b2⟩
theorem of11_l (s:ByteArray) (t:List Int) (f:List (List Int)×List RU) (g:GR) (hs:St s t) (hl:t.length≤100000000) (hf:fileL t= .inr f) (ho:fokB 4 f=true) (hg:flatL 4 f= .inr g) (W:World):
  Calls Tryz.prog 55 #[.string s] W fun e w'=>∃a c b d,e= .returned (.agg #[.slice a g.1.length c,.slice b g.2.length d])∧GrM w' (.agg #[.slice a g.1.length c,.slice b g.2.length d]) g∧Below W.heap.size W w':=by
 have TA:=zk (fun W=>text2_l s t f g hs hl hf ho hg W)
 clear hs hl hf ho hg
 generalize f.1.length=n1 at*
 generalize f.2.length=n2 at*
 generalize t.length=n3 at*
 go_enter Tryz.func55,Tryz.ntmps55
 go_wp2_with fail
 refine(zq TA _).mono ?_
 rintro e w1 ⟨aK,cK,aR,cR,rfl,b1,hO⟩
 have CO:=zk hO
 have X0:=(b1.block _ (by simp)).trans (heap_alloc_new W (.cells #[.slice none 0 0,.slice none 0 0] 25))
 have B1:=zk (Xj (Below.new1 (w:=W) (.cells #[.slice none 0 0,.slice none 0 0] 25)) b1)
 clear TA hO b1
 go_wp2_with fail
 refine(zq CO _ (Below.new1 _)).mono ?_
 rintro e w2 ⟨a,c,b,d,rfl,gm,b2⟩
 have bn:=Xj (Below.new1 _) b2
 have X2:=(bn.block _ (Array.getElem?_eq_some_iff.1 X0).1).trans X0
 have B2:=zk (Xj (zq B1) bn)
 have e0:=(Array.getElem?_eq_some_iff.1 X0).1
 have GM:Hid (∀F,(∀i,i≠W.heap.size→i<w2.heap.size→F.heap[i]? =w2.heap[i]?)→GrM F (.agg #[.slice a g.1.length c,.slice b g.2.length d]) g):=by
  intro F far
  refine grM_of (GramV.kp gm (D':=fun g=>w1.heap.size≤g) (fun i o hi hio=>⟨?_,(far i ?_ hi.2).trans hio⟩) ?_ (fun i hi=>hi.2)) (fun a n c l h=>⟨h.2.1,h.2.2.1⟩)
  ·have:=hi.1;simp at this;omega
  ·have:=hi.1;simp at this;omega
  ·intro i cs fr hi
   exact(far i (fun c=>by rw[c,X2]at hi;injection hi with hi;injection hi with _ h2;revert h2;decide) (Array.getElem?_eq_some_iff.1 hi).1).trans hi
 clear CO gm bn b2 X0 e0 B1
 generalize hn4:g.1.length=n4 at*
 generalize hn5:g.2.length=n5 at*
 have X3:=(heap_alloc_old w2 (.cells #[.slice a n4 c,.slice b n5 d] 25) (Array.getElem?_eq_some_iff.1 X2).1).trans X2
 have X4:=heap_setCell_same _ W.heap.size 0 _ _ (.slice a n4 c) X3
 have X5:=heap_setCell_same _ W.heap.size 1 _ _ (.slice b n5 d) X4
 obtain⟨c0,-⟩:=XX X3
 obtain⟨-,c1⟩:=XX X4
 obtain⟨e0,e1⟩:=XX X5
 have z0:(w2.alloc (.cells #[.slice a n4 c,.slice b n5 d] 25)).frozen? ⟨W.heap.size,0,none⟩=false:=by simp[World.frozen?,X3]
 have z1:((w2.alloc (.cells #[.slice a n4 c,.slice b n5 d] 25)).setCell ⟨W.heap.size,0,none⟩ (.slice a n4 c)).frozen? ⟨W.heap.size,1,none⟩=false:=by simp[World.frozen?,X4]
 have bf:Below W.heap.size w2 (((w2.alloc (.cells #[.slice a n4 c,.slice b n5 d] 25)).setCell ⟨W.heap.size,0,none⟩ (.slice a n4 c)).setCell ⟨W.heap.size,1,none⟩ (.slice b n5 d)):=
  ((((Below.refl _ _).alloc (zq B2).size (.cells #[.slice a n4 c,.slice b n5 d] 25))).setCell (p:=⟨W.heap.size,0,none⟩) (Nat.le_refl _) _).setCell (p:=⟨W.heap.size,1,none⟩) (Nat.le_refl _) _
 have B3:=zk ((zq B2).trans bf)
 have X6:=zk X5
 have H4:=zk hn4
 have H5:=zk hn5
 clear X2 X3 X4 X5 bf B2 hn4 hn5
 go_wp2_with fail
 have hn4:=zq H4
 have hn5:=zq H5
 subst hn4
 subst hn5
 refine bodyPost_ret (v:= .agg #[.slice a g.1.length c,.slice b g.2.length d]) ?_ rfl ⟨a,c,b,d,rfl,zq GM _ ?_,zq B3⟩
 ·exact results_cell_row rfl _ _ W.heap.size _ _ _ _ rfl (zq X6) Tryz.underlying25 rfl (by kernel_rfl)
 ·intro i h1 h2
  rw[heap_setCell_other _ _ _ _ h1,heap_setCell_other _ _ _ _ h1]
  exact heap_alloc_old _ _ h2
theorem awake11_l (w:World):Calls Tryz.prog 25 #[] w fun e w'=>e= .returned (.bool true)∧Below w.heap.size w w':=by
 have TA:=zk (fun W=>of11_l ⟨#[97,32,61,32,34,120,34,59,32,98,32,61,32,97,59]⟩ tC fC gC (St.of bytesC) (by show 15≤100000000;omega) fileC fokC flatC W)
 have TB:=zk (fun W=>of11_l ⟨#[97,32,61,32,97,32,34,120,34,59]⟩ tD fD gD (St.of bytesD) (by show 10≤100000000;omega) fileD fokD flatD W)
 have e1:gC.1.length=2:=rfl
 have e2:gC.2.length=0:=rfl
 have e3:gD.1.length=1:=rfl
 have e4:gD.2.length=0:=rfl
 rw[e1,e2]at TA
 rw[e3,e4]at TB
 clear e1 e2 e3 e4
 go_enter Tryz.func25,Tryz.ntmps25
 go_wp2_with fail
 refine(zq TA _).mono ?_
 rintro e w1 ⟨a,c,b,d,rfl,gm,b1⟩
 have CF:=zk (fun W (bW:Below w1.heap.size w1 W)=>From_l _ gC 1 W (gm.later bW))
 have CL:=zk (fun W (bW:Below w1.heap.size w1 W)=>Lost_l _ gC W (gm.later bW))
 have CV:=zk (fun W (bW:Below w1.heap.size w1 W)=>Vain_l _ gC W (gm.later bW))
 have G0:=heap_alloc_new w1 (.cells #[.slice a 2 c,.slice b 0 d] 25)
 have hw1:w1.heap.size<(w1.alloc (.cells #[.slice a 2 c,.slice b 0 d] 25)).heap.size:=by simp
 have B1:=zk b1
 have A1:=zk (Below.new1 (w:=w1) (.cells #[.slice a 2 c,.slice b 0 d] 25))
 clear TA gm b1
 go_wp2_with fail
 refine(zq TB _).mono ?_
 rintro e w2 ⟨a2,c2,b2,d2,rfl,gm,bb⟩
 have CW:=zk (fun W (bW:Below w2.heap.size w2 W)=>Vain_l _ gD W (gm.later bW))
 have G1:=(bb.block _ hw1).trans G0
 have B2:=zk (Xj (zq A1) bb)
 have g2lt:=(Array.getElem?_eq_some_iff.1 G1).1
 clear TB gm bb G0 A1 hw1
 have H0:=heap_alloc_new w2 (.cells #[.slice a2 1 c2,.slice b2 0 d2] 25)
 have G2:=(heap_alloc_old w2 (.cells #[.slice a2 1 c2,.slice b2 0 d2] 25) g2lt).trans G1
 have A2:=zk (Below.new1 (w:=w2) (.cells #[.slice a2 1 c2,.slice b2 0 d2] 25))
 obtain⟨x0,x1⟩:=XX G2
 clear G1 g2lt
 go_wp2_with fail
 refine(zq CF _ (Xj (zq B2) (zq A2))).mono ?_
 rintro e w3 ⟨v3,S3,rfl,hv3,hS3,b3⟩
 obtain rfl:=fromC1 hS3
 have G3:=(b3.block _ (Array.getElem?_eq_some_iff.1 G2).1).trans G2
 have H3:=(b3.block _ (Array.getElem?_eq_some_iff.1 H0).1).trans H0
 have B3:=zk (Xj (Xj (zq B2) (zq A2)) b3)
 have D3:=zk (Xj (zq A2) b3)
 have ce:=zk (ceOwn (enc:=Value.bool) hv3)
 obtain⟨a3,n3,c3,rfl⟩:=own_form3 hv3
 clear CF hv3 hS3 b3 G2 H0 x0 x1 A2 B2
 go_wp2_with fail
 have bn:Below w3.heap.size w3 (w3.alloc (.cells #[.bool true,.bool false] 4)):=Below.new1 _
 have CI:=zk (bools_l _ _ [true,false] [true,false] (w3.alloc (.cells #[.bool true,.bool false] 4)) ((zq ce).later bn) (ceNew (enc:=Value.bool) (l:=[true,false]) (heap_alloc_new w3 _) (by simp)))
 rw[show eqG (fun x y=>x==y) ([true,false]:List Bool) [true,false]=true from rfl]at CI
 have G4:=(bn.block _ (Array.getElem?_eq_some_iff.1 G3).1).trans G3
 have H4:=(bn.block _ (Array.getElem?_eq_some_iff.1 H3).1).trans H3
 have HB:=zk bn
 clear bn G3 H3 ce
 refine(zq CI).mono ?_
 rintro e w4 ⟨rfl,b4⟩
 have G5:=(b4.block _ (Array.getElem?_eq_some_iff.1 G4).1).trans G4
 have H5:=(b4.block _ (Array.getElem?_eq_some_iff.1 H4).1).trans H4
 have B4:=zk (Xj (zq B3) (Xj (zq HB) b4))
 have D4:=zk (Xj (zq D3) (Xj (zq HB) b4))
 obtain⟨y0,y1⟩:=XX G5
 clear CI b4 G4 H4 HB B3 D3
 go_wp2_with fail
 refine(zq CL _ (zq B4)).mono ?_
 rintro e w5 ⟨r,S,rfl,hS,hr,b5⟩
 obtain rfl:=lostC hS hr
 have G6:=(b5.block _ (Array.getElem?_eq_some_iff.1 G5).1).trans G5
 have H6:=(b5.block _ (Array.getElem?_eq_some_iff.1 H5).1).trans H5
 obtain⟨z0,z1⟩:=XX G6
 have B5:=zk (Xj (zq B4) b5)
 have D5:=zk (Xj (zq D4) b5)
 clear CL hS hr b5 G5 H5 y0 y1 B4 D4
 go_wp2_with fail
 refine(zq CV _ (zq B5)).mono ?_
 rintro e w6 ⟨r,S6,rfl,hS,hr,b6⟩
 obtain rfl:=vainC hS hr
 have H7:=(b6.block _ (Array.getElem?_eq_some_iff.1 H6).1).trans H6
 obtain⟨y0,y1⟩:=XX H7
 have B6:=zk (Xj (zq B5) b6)
 have D6:=zk (Xj (zq D5) b6)
 clear CV hS hr b6 G6 H6 z0 z1 B5 D5
 go_wp2_with fail
 refine(zq CW _ (zq D6)).mono ?_
 rintro e w7 ⟨r,S7,rfl,hS,hr,b7⟩
 obtain rfl:=vainD hS hr
 have B7:=zk (Xj (zq B6) b7)
 clear CW hS hr b7 H7 y0 y1 B6 D6
 go_wp2_with fail
 go_ret
 exact⟨rfl,Xj (zq B1) (zq B7)⟩
end Go.Proofs.YtcblkmlcbedomaaGreatDoor.Rc

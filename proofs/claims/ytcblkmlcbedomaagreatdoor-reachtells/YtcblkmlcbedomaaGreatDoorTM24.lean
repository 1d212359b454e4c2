/- Parts of the proof that stand ahead of it (T 24). -/
import Derived.Test.YtcblkmlcbedomaaGreatDoorTM22
import Derived.Test.YtcblkmlcbedomaaGreatDoorTM14
set_option linter.unusedVariables false
set_option linter.unusedSimpArgs false
set_option maxRecDepth 20000
set_option maxHeartbeats 16000000
namespace Go.Proofs.YtcblkmlcbedomaaGreatDoor
open Go.RowKit Go.Shelf
def An (w:World) (p:Int→Bool) (e:Ending) (w':World):Prop:=∃a len cap out,e= .returned (.slice a len cap)∧Rs w' a len cap out∧G.Is out p∧Below w.heap.size w w'
theorem may_fits {out:List (Int×Int)} (h:G.zo out=true):∀r∈out,yQ r.1∧yQ r.2:=fun r hr=>by
 have:=G.may_mem h hr
 unfold yQ;omega
theorem An.of {w w':World} {p:Int→Bool} {v:Value} {out:List (Int×Int)} (ho:Ow w' w.heap.size v out) (hi:G.Is out p) (hb:Below w.heap.size w w'):An w p (.returned v) w':=by
 obtain⟨a,cap,rfl,hr⟩:=ho.rs (may_fits hi.1)
 exact⟨a,_,cap,out,rfl,hr,hi,hb⟩
def AnO (w:World) (p:Int→Bool) (e:Ending) (w':World):Prop:=∃v out,e= .returned v∧Ow w' w.heap.size v out∧G.Is out p∧Below w.heap.size w w'
theorem AnO.an {w w':World} {p:Int→Bool} {e:Ending} (h:AnO w p e w'):An w p e w':=by
 obtain⟨v,out,rfl,ho,hi,hb⟩:=h
 exact An.of ho hi hb
theorem AnO.congr {w w':World} {p q:Int→Bool} {e:Ending} (h:AnO w p e w') (hq:∀n,p n=q n):AnO w q e w':=by
 obtain⟨v,out,he,ho,hi,hb⟩:=h
 exact⟨v,out,he,ho,hi.congr hq,hb⟩
def nrm (l:List (Int×Int)) (n:Int):Bool:=G.dom n&&G.hasB l n
theorem normAn (a:Option Addr) (len cap:Nat) (l:List (Int×Int)) (w:World) (h:Rs w a len cap l) (hs:len≤1000000):
  Calls Tryz.prog 188 #[.slice a len cap] w (An w (nrm l)):=by
 refine(norm_any a len cap l w h hs).mono ?_
 rintro e w' ⟨v,out,rfl,ho,hi,hb⟩
 exact An.of ho hi hb
theorem Rs.put {w:World} {a:Option Addr} {len cap:Nat} {l:List (Int×Int)} (h:Rs w a len cap l) {p:Addr} {x:Option Addr} {y z:Nat} (hp:w.cell? p=some (.slice x y z)) {v:Value}:Rs (w.setCell p v) a len cap l:=by
 refine⟨h.hlen,h.hcap,h.hmax,h.hfit,fun i hi=> ?_⟩
 obtain⟨b,off,ha,h1,h2⟩:=h.hcell i hi
 refine⟨b,off,ha,?_,?_⟩
 ·rw[World.cell?_setCell_other _ _ _ _ (fun e=>by rw[←e,hp]at h1;cases h1)];exact h1
 ·rw[World.cell?_setCell_other _ _ _ _ (fun e=>by rw[←e,hp]at h2;cases h2)];exact h2
theorem pairOf_any (a:Option Addr) (la ca:Nat) (A:List (Int×Int)) (b:Option Addr) (lb cb:Nat) (B:List (Int×Int)) (w:World) (ha:Rs w a la ca A) (hb:Rs w b lb cb B) (sa:la≤1000000) (sb:lb≤1000000):
  Calls Tryz.prog 220 #[.slice a la ca,.slice b lb cb] w fun e w'=>∃a' la' ca' A' b' lb' cb' B',e= .returned (.agg #[.slice a' la' ca',.slice b' lb' cb'])∧Pr w' a' la' ca' A' b' lb' cb' B'∧(∀n,G.hasB A' n=nrm A n)∧(∀n,G.hasB B' n=nrm B n)∧Below w.heap.size w w':=by
 have C1:=zk (fun(W:World) (hW:Below w.heap.size w W)=>normAn a la ca A W (ha.later hW (Nat.le_refl _)) sa)
 have C2:=zk (fun(W:World) (hW:Below w.heap.size w W)=>normAn b lb cb B W (hb.later hW (Nat.le_refl _)) sb)
 clear ha hb
 go_enter Tryz.func220,Tryz.ntmps220
 go_wp2_with fail
 refine(zq C1 _ (Below.new1 _)).mono ?_
 rintro e w1 ⟨a1,l1,k1,A1,rfl,r1,i1,b1⟩
 have B1:Below w.heap.size w w1:=(Below.new1 _).trans (b1.mono (by simp))
 have i1':=zk i1
 clear i1
 go_wp2_with fail
 refine(zq C2 _ B1).mono ?_
 rintro e w2 ⟨a2,l2,k2,A2,rfl,r2,i2,b2⟩
 have i2':=zk i2
 clear i2 C1 C2
 simp only[World.size_alloc]at b1
 have s1:=b1.size
 simp only[World.size_alloc]at s1
 have hc:w2.heap[w.heap.size]? =some (.cells #[.slice none 0 0,.slice none 0 0] 247):=
  (b2.block _ (by omega)).trans ((b1.block _ (by omega)).trans (World.alloc_heap_new w _))
 have q0:w2.cell? ⟨w.heap.size,0,none⟩=some (.slice none 0 0):=by simp[World.cell?,hc]
 have q1:w2.cell? ⟨w.heap.size,1,none⟩=some (.slice none 0 0):=by simp[World.cell?,hc]
 have q0f:w2.frozen? ⟨w.heap.size,0,none⟩=false:=by simp[World.frozen?,hc]
 have q1f:w2.frozen? ⟨w.heap.size,1,none⟩=false:=by simp[World.frozen?,hc]
 have R1:=r1.later b2 (Nat.le_refl _)
 have B2:Below w.heap.size w w2:=B1.trans (b2.mono (by omega))
 clear r1 b1 b2 hc
 go_wp2_with fail
 have g0:((w2.setCell ⟨w.heap.size,0,none⟩ (.slice a1 l1 k1)).setCell ⟨w.heap.size,1,none⟩ (.slice a2 l2 k2)).cell? ⟨w.heap.size,0,none⟩=some (.slice a1 l1 k1):=by
  rw[World.cell?_setCell_other _ _ _ _ (by simp)];exact World.cell?_setCell_same _ _ _ q0
 have g1':(w2.setCell ⟨w.heap.size,0,none⟩ (.slice a1 l1 k1)).cell? ⟨w.heap.size,1,none⟩=some (.slice none 0 0):=by
  rw[World.cell?_setCell_other _ _ _ _ (by simp)];exact q1
 have g1:((w2.setCell ⟨w.heap.size,0,none⟩ (.slice a1 l1 k1)).setCell ⟨w.heap.size,1,none⟩ (.slice a2 l2 k2)).cell? ⟨w.heap.size,1,none⟩=some (.slice a2 l2 k2):=
  World.cell?_setCell_same _ _ _ g1'
 refine bodyPost_ret (v:= .agg #[.slice a1 l1 k1,.slice a2 l2 k2]) (by simp[results,Tryz.results220,go_sem,g0,g1]) rfl ?_
 exact⟨a1,l1,k1,A1,a2,l2,k2,A2,rfl,⟨(R1.put q0).put g1',(r2.put q0).put g1',(zq i1').1,(zq i2').1⟩,(zq i1').2,(zq i2').2,(B2.setCell (by simp) _).setCell (by simp) _⟩
theorem rgLessO_any (a:Option Addr) (la ca:Nat) (A:List (Int×Int)) (b:Option Addr) (lb cb:Nat) (B:List (Int×Int)) (w:World) (ha:Rs w a la ca A) (hb:Rs w b lb cb B) (sa:la≤1000000) (sb:lb≤1000000):
  Calls Tryz.prog 190 #[.slice a la ca,.slice b lb cb] w (AnO w fun n=>nrm A n&& !nrm B n):=by
 have C1:=zk (pairOf_any a la ca A b lb cb B w ha hb sa sb)
 have hmf:∀(fn:Fn) (first cap:Array Value) (w:World),(Instr.makeFunc fn first cap).run Tryz.prog w= .ok (.func fn first cap) w:=fun _ _ _ _=>rfl
 clear ha hb
 go_enter Tryz.func190,Tryz.ntmps190
 go_wp2_with fail
 refine(zq C1).mono ?_
 rintro e w1 ⟨a1,l1,k1,A1,b1,m1,j1,B1,rfl,hp,e1,e2,bw⟩
 have E1:=zk e1
 have E2:=zk e2
 have Bw:=zk bw
 have M1:=zk (G.merge_is hp.ma hp.mb (fun x y=>x&& !y) rfl)
 have C2:=zk (fun(W:World) (hW:Below w1.heap.size w1 W)=>merge_any 222 (fun n=>(fun x y=>x&& !y) (G.hasB A1 n) (G.hasB B1 n)) a1 l1 k1 A1 b1 m1 j1 B1 W (hp.later hW (Nat.le_refl _)) (enters_of Tryz.func222 (by kernel_rfl) rfl) (fun n W' h'=>less_any a1 l1 k1 A1 b1 m1 j1 B1 n W' h'))
 clear e1 e2 bw C1 hp
 go_wp2_with fail
 refine(zq C2 _ (Below.new1 _)).mono ?_
 rintro e w2 ⟨v,rfl,ho,hb2⟩
 clear C2
 go_wp2_with fail
 go_ret
 have s1:=(zq Bw).size
 simp only[World.size_alloc]at ho hb2
 refine AnO.congr ⟨_,_,rfl,own_mono ho (by omega),zq M1,((zq Bw).trans (((Below.new1 _).mono s1).trans (hb2.mono (by omega))))⟩ fun n=> ?_
 simp only[zq E1 n,zq E2 n]
theorem rgLess_any (a:Option Addr) (la ca:Nat) (A:List (Int×Int)) (b:Option Addr) (lb cb:Nat) (B:List (Int×Int)) (w:World) (ha:Rs w a la ca A) (hb:Rs w b lb cb B) (sa:la≤1000000) (sb:lb≤1000000):
  Calls Tryz.prog 190 #[.slice a la ca,.slice b lb cb] w (An w fun n=>nrm A n&& !nrm B n):=(rgLessO_any a la ca A b lb cb B w ha hb sa sb).mono fun _ _ h=>h.an
theorem Rs.single (w:World) (lo hi:Int) (f1:yQ lo) (f2:yQ hi) (n:Nat) (hn:n=w.heap.size):Rs (w.alloc (boxRg lo hi)) (some ⟨n,0,none⟩) 1 1 [(lo,hi)]:=by
 subst hn
 refine⟨rfl,Nat.le_refl _,by decide,fun r hr=>by simp at hr;subst hr;exact⟨f1,f2⟩,fun i hi=>⟨_,_,rfl,?_⟩⟩
 have:i=0:=by omega
 subst this
 exact⟨by rw[World.cell?_alloc_at _ _ _ _ rfl];rfl,by rw[World.cell?_alloc_at _ _ _ _ rfl];rfl⟩
def notP (l:List (Int×Int)) (high n:Int):Bool:=nrm [(0,high)] n&& !nrm l n
theorem rgNot_any (a:Option Addr) (la ca:Nat) (A:List (Int×Int)) (high:Int) (w:World) (ha:Rs w a la ca A) (sa:la≤1000000) (hh:yQ high):
  Calls Tryz.prog 189 #[.slice a la ca,.int .i64 high] w (An w (notP A high)):=by
 have C1:=zk (rgLess_any (some ⟨w.heap.size,0,none⟩) 1 1 [(0,high)] a la ca A (w.alloc (boxRg 0 high)) (Rs.single w 0 high (by unfold yQ;omega) hh _ rfl) (ha.later (Below.new1 _) (Nat.le_refl _)) (by omega) sa)
 clear ha
 go_enter Tryz.func189,Tryz.ntmps189
 go_wp2_with fail
 refine(zq C1).mono ?_
 rintro e w1 ⟨a1,l1,k1,A1,rfl,r1,i1,b1⟩
 have i1':=zk i1
 clear i1 C1
 go_wp2_with fail
 go_ret
 simp only[World.size_alloc]at b1
 exact⟨a1,l1,k1,A1,rfl,r1,zq i1',(Below.new1 _).trans (b1.mono (by omega))⟩
end Go.Proofs.YtcblkmlcbedomaaGreatDoor

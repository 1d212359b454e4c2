/- Parts of the proof that stand ahead of it (ReachWithin 4). -/
import Derived.Deep.SlicePairs
import Derived.ProofKit
import Derived.OpenShut
import Derived.Test.YtcblkmlcbedomaaGreatDoorRM3
set_option linter.unusedVariables false
set_option linter.unusedSimpArgs false
set_option maxRecDepth 20000
set_option maxHeartbeats 16000000
namespace Go.Proofs.YtcblkmlcbedomaaGreatDoor
open Go.RowKit Go.Deep
theorem fits_wf {n:Int} (h:(Lit.int .i64 n).wf=true):yQ n:=by
 have:=bounds_i64 h
 unfold yQ;omega
theorem Rs.ofTrod {H:Type} {enc:TypeId×Value→H} {W:World} {base:Nat} {spare:Nat→Bool} {held:Bool} {fuel:Nat} {a:Option Addr} {len cap:Nat} {x:DataW H×List MemPlace}
  (h:DataW.trod enc Tryz.prog W base spare held fuel 39 [.slice a len cap]=some x):∃L,Rs W a len cap L:=by
 rcases open_slice_pairs Tryz.underlying39 Tryz.underlying51 (by kernel_rfl) rfl rfl (by kernel_rfl) (by kernel_rfl) h with ⟨hc,-⟩|⟨ad,l,c,m,n,V0,V1,D0,D1,P0,P1,hc,-,hl,hm,hmm,-,hall⟩
 ·simp at hc
  obtain⟨rfl,rfl,rfl⟩:=hc
  exact⟨[],Rs.nil W⟩
 ·simp at hc
  obtain⟨rfl,rfl,rfl⟩:=hc
  have hlm:len≤m:=by rw[hmm];split<;>omega
  have one:∀i,i<len→∃p q,V0 i= .int .i64 p∧V1 i= .int .i64 q∧yQ p∧yQ q:=by
   intro i hi
   obtain⟨-,-,t0,t1⟩:=hall i (by omega)
   obtain⟨p,e0,-,w0⟩:=DataW.trod_int Tryz.underlying3 t0
   obtain⟨q,e1,-,w1⟩:=DataW.trod_int Tryz.underlying3 t1
   simp at e0 e1
   exact⟨p,q,e0,e1,fits_wf w0,fits_wf w1⟩
  refine⟨(List.range len).map fun i=>(intOf (V0 i),intOf (V1 i)),by simp,hl,hm,fun r hr=> ?_,fun i hi=> ?_⟩
  ·simp only[List.mem_map,List.mem_range]at hr
   obtain⟨i,hi,rfl⟩:=hr
   obtain⟨p,q,e0,e1,f0,f1⟩:=one i hi
   rw[e0,e1];exact⟨f0,f1⟩
  ·obtain⟨p,q,e0,e1,f0,f1⟩:=one i hi
   obtain⟨c0,c1,-,-⟩:=hall i (by omega)
   obtain⟨b,off,spot⟩:=ad
   have hspot:spot=none:=by simpa [Addr.add] using World.cell?_spot (hall 0 (by omega)).1
   subst hspot
   rw[Addr.add_lit]at c0 c1
   have eL:((List.range len).map fun i=>(intOf (V0 i),intOf (V1 i))).getD i (0,0)=(intOf (V0 i),intOf (V1 i)):=by simp[List.getD,hi]
   rw[eL]
   refine⟨b,off,rfl,?_,?_⟩
   ·rw[c0,e0];rfl
   ·rw[←Nat.add_assoc]at c1;rw[c1,e1];rfl
end Go.Proofs.YtcblkmlcbedomaaGreatDoor

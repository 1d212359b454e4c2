/- Parts of the proof that stand ahead of it (ReachLost 3). -/
import Derived.Test.YtcblkmlcbedomaaGreatDoorRM7
set_option linter.unusedVariables false
set_option linter.unusedSimpArgs false
set_option maxRecDepth 20000
set_option maxHeartbeats 16000000
namespace Go.Proofs.YtcblkmlcbedomaaGreatDoor.Nl
open Go.RowKit Go.Shelf Go.Proofs.YtcblkmlcbedomaaGreatDoor.F
def SyL (w:World) (B:Nat) (v:Value) (l:List SY):Prop:=∃a c,v= .slice a l.length c∧l.length≤c∧c≤maxLen∧
 ∀j s,l[j]? =some s→yQ s.2.2∧∃g off x n k,a=some ⟨g,off,none⟩∧g<B∧w.cell? ⟨g,off+3*j,none⟩=some (.int .i64 s.1)∧w.cell? ⟨g,off+3*j+1,none⟩=some (.slice x n k)∧w.cell? ⟨g,off+3*j+2,none⟩=some (.int .i64 s.2.2)
def AltL (w:World) (B:Nat) (v:Value) (A:List (List SY)):Prop:=∃a c,v= .slice a A.length c∧A.length≤c∧c≤maxLen∧
 ∀j l,A[j]? =some l→∃g off u,a=some ⟨g,off,none⟩∧g<B∧w.cell? ⟨g,off+j,none⟩=some u∧SyL w B u l
def PrL (w:World) (B:Nat) (v:Value) (P:List PRD):Prop:=∃a c,v= .slice a P.length c∧P.length≤c∧c≤maxLen∧
 ∀j p,P[j]? =some p→∃g off u m x n k,a=some ⟨g,off,none⟩∧g<B∧w.cell? ⟨g,off+3*j,none⟩=some u∧w.cell? ⟨g,off+3*j+1,none⟩=some (.int .i64 m)∧w.cell? ⟨g,off+3*j+2,none⟩=some (.slice x n k)∧AltL w B u p.1
theorem SyL.kept {w X:World} {B B':Nat} {v:Value} {l:List SY} (h:SyL w B v l) (k:∀g,g<B→g<B'∧X.heap[g]? =w.heap[g]?):SyL X B' v l:=by
 obtain⟨a,c,e,h1,h2,h3⟩:=h
 refine⟨a,c,e,h1,h2,fun j s hj=> ?_⟩
 obtain⟨hf,g,off,x,n,kk,ha,hg,q0,q1,q2⟩:=h3 j s hj
 have hc:=World.cell?_of_block (w:=w) (w':=X) (a:=⟨g,off,none⟩) (k g hg).2
 refine⟨hf,g,off,x,n,kk,ha,(k g hg).1,?_,?_,?_⟩
 ·rw[World.cell?_of_block (w:=w) (a:=⟨g,off+3*j,none⟩) (k g hg).2];exact q0
 ·rw[World.cell?_of_block (w:=w) (a:=⟨g,off+3*j+1,none⟩) (k g hg).2];exact q1
 ·rw[World.cell?_of_block (w:=w) (a:=⟨g,off+3*j+2,none⟩) (k g hg).2];exact q2
theorem AltL.kept {w X:World} {B B':Nat} {v:Value} {A:List (List SY)} (h:AltL w B v A) (k:∀g,g<B→g<B'∧X.heap[g]? =w.heap[g]?):AltL X B' v A:=by
 obtain⟨a,c,e,h1,h2,h3⟩:=h
 refine⟨a,c,e,h1,h2,fun j l hj=> ?_⟩
 obtain⟨g,off,u,ha,hg,q0,hs⟩:=h3 j l hj
 exact⟨g,off,u,ha,(k g hg).1,by rw[World.cell?_of_block (w:=w) (a:=⟨g,off+j,none⟩) (k g hg).2];exact q0,hs.kept k⟩
theorem PrL.kept {w X:World} {B B':Nat} {v:Value} {P:List PRD} (h:PrL w B v P) (k:∀g,g<B→g<B'∧X.heap[g]? =w.heap[g]?):PrL X B' v P:=by
 obtain⟨a,c,e,h1,h2,h3⟩:=h
 refine⟨a,c,e,h1,h2,fun j p hj=> ?_⟩
 obtain⟨g,off,u,m,x,n,kk,ha,hg,q0,q1,q2,hs⟩:=h3 j p hj
 refine⟨g,off,u,m,x,n,kk,ha,(k g hg).1,?_,?_,?_,hs.kept k⟩
 ·rw[World.cell?_of_block (w:=w) (a:=⟨g,off+3*j,none⟩) (k g hg).2];exact q0
 ·rw[World.cell?_of_block (w:=w) (a:=⟨g,off+3*j+1,none⟩) (k g hg).2];exact q1
 ·rw[World.cell?_of_block (w:=w) (a:=⟨g,off+3*j+2,none⟩) (k g hg).2];exact q2
theorem PrL.later {w X:World} {B:Nat} {v:Value} {P:List PRD} (h:PrL w B v P) (b:Below B w X):PrL X B v P:=h.kept fun g hg=>⟨hg,b.block g hg⟩
theorem ncells2 {W:World} {g:Nat} {x0 x1:Value} {t:TypeId} (h:W.heap[g]? =some (.cells #[x0,x1] t)):
  W.cell? ⟨g,0,none⟩=some x0∧W.cell? ⟨g,1,none⟩=some x1∧W.frozen? ⟨g,0,none⟩=false∧W.frozen? ⟨g,1,none⟩=false:=by
 refine⟨?_,?_,?_,?_⟩<;>simp[World.cell?,World.frozen?,h]
attribute [local go_sem] Oper.semAt_some
end Go.Proofs.YtcblkmlcbedomaaGreatDoor.Nl

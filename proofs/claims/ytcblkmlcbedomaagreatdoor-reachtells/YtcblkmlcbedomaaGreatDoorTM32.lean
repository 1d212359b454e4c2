/- Parts of the proof that stand ahead of it (T 32). -/
import Derived.Test.YtcblkmlcbedomaaGreatDoorTM31
import Derived.Test.YtcblkmlcbedomaaGreatDoorTM15
set_option linter.unusedVariables false
set_option linter.unusedSimpArgs false
set_option maxRecDepth 20000
set_option maxHeartbeats 16000000
namespace Go.Proofs.YtcblkmlcbedomaaGreatDoor.Nl
open Go.RowKit Go.Shelf Go.Proofs.YtcblkmlcbedomaaGreatDoor.T Go.Proofs.YtcblkmlcbedomaaGreatDoor.R Go.Proofs.YtcblkmlcbedomaaGreatDoor.F
def SyM (w:World) (v:Value) (l:List SY):Prop:=∃a c,v= .slice a l.length c∧l.length≤c∧c≤maxLen∧
 ∀j s,l[j]? =some s→∃g off x k,a=some ⟨g,off,none⟩∧g<w.heap.size∧w.cell? ⟨g,off+3*j,none⟩=some (.int .i64 s.1)∧w.cell? ⟨g,off+3*j+1,none⟩=some (.slice x s.2.1.length k)∧w.cell? ⟨g,off+3*j+2,none⟩=some (.int .i64 s.2.2)∧Rs w x s.2.1.length k s.2.1
def AltM (w:World) (v:Value) (A:List (List SY)):Prop:=∃a c,v= .slice a A.length c∧A.length≤c∧c≤maxLen∧
 ∀j l,A[j]? =some l→∃g off u,a=some ⟨g,off,none⟩∧g<w.heap.size∧w.cell? ⟨g,off+j,none⟩=some u∧SyM w u l
def NotM (w:World) (v:Value) (N:List (Int×Int)):Prop:=∃a c,v= .slice a N.length c∧Rs w a N.length c N
def PrM (w:World) (v:Value) (P:List PRD):Prop:=∃a c,v= .slice a P.length c∧P.length≤c∧c≤maxLen∧
 ∀j p,P[j]? =some p→∃g off u u2,a=some ⟨g,off,none⟩∧g<w.heap.size∧w.cell? ⟨g,off+3*j,none⟩=some u∧w.cell? ⟨g,off+3*j+1,none⟩=some (.int .i64 p.2.1)∧w.cell? ⟨g,off+3*j+2,none⟩=some u2∧AltM w u p.1∧NotM w u2 p.2.2
def GrM (w:World) (v:Value) (g:GR):Prop:=∃a c aK cK,v= .agg #[.slice a g.1.length c,.slice aK g.2.length cK]∧PrM w (.slice a g.1.length c) g.1∧g.2.length≤cK∧cK≤maxLen
/-! ### What came of flat, and what package null reads -/
theorem syM_of {D:Nat→Prop} {w:World} {v:Value} {l:List SY} (h:SymsV D w v l):SyM w v l:=by
 obtain⟨a,c,cs,rfl,hr,hs⟩:=id h
 refine⟨a,c,rfl,hr.1,hr.2.1,fun j s hj=> ?_⟩
 obtain⟨g,off,x,k,ha,hg,q0,q1,q2,hrs⟩:=sym_get h hj
 exact⟨g,off,x,k,ha,hg,q0,q1,q2,hrs⟩
theorem altM_of {D:Nat→Prop} {w:World} {v:Value} {A:List (List SY)} (h:AltV D w v A):AltM w v A:=by
 obtain⟨a,c,cs,rfl,hr,hs⟩:=id h
 refine⟨a,c,rfl,hr.1,hr.2.1,fun j l hj=> ?_⟩
 obtain⟨g,off,x,k,ha,hg,q0,hsy⟩:=alt_get h hj
 exact⟨g,off,_,ha,hg,q0,syM_of hsy⟩
theorem grM_of {D:Nat→Prop} {w:World} {v:Value} {g:GR} (h:GramV D w v g) (hK:∀a n c l,Ss D w a n c l→n≤c∧c≤maxLen):GrM w v g:=by
 obtain⟨a,c,cs,aK,cK,rfl,hr,hp,hs⟩:=h
 refine⟨a,c,aK,cK,rfl,⟨a,c,rfl,hr.1,hr.2.1,fun j p hj=> ?_⟩,hK _ _ _ _ hs⟩
 obtain⟨g',off,x0,k0,x2,k2,ha,hg,q0,q1,q2,hA,hN⟩:=prod_get hr hp hj
 obtain⟨y,cy,e,hrs,-⟩:=id hN
 exact⟨g',off,_,_,ha,hg,q0,q1,q2,altM_of hA,⟨y,cy,e,hrs⟩⟩
theorem text_l (s:ByteArray) (t:List Int) (f:List (List Int)×List RU) (g:GR) (hs:St s t) (hl:t.length≤100000000) (hf:fileL t= .inr f) (ho:fokB 4 f=true) (hg:flatL 4 f= .inr g) (W:World):
  Calls Tryz.prog 36 #[.string s] W fun e w1=>∃aK cK aR cR,e= .returned (.tuple #[.agg #[.slice aK f.1.length cK,.slice aR f.2.length cR],.int .i64 (t.length:Nat),.int .i64 0])∧Below W.heap.size W w1∧
   ∀X,Below w1.heap.size w1 X→Calls Tryz.prog 37 #[.agg #[.slice aK f.1.length cK,.slice aR f.2.length cR]] X fun e w2=>∃a c b d,e= .returned (.tuple #[.agg #[.slice a g.1.length c,.slice b g.2.length d],.int .i64 0,.int .i64 0])∧GrM w2 (.agg #[.slice a g.1.length c,.slice b g.2.length d]) g∧Below X.heap.size X w2:=by
 refine(file_any s t hs hl W).mono ?_
 rintro e w1 ⟨fr,b1⟩
 obtain⟨v1,rfl,fv⟩:=file_is fr hf
 obtain⟨aK,cK,aR,cR,rfl,-⟩:=id fv
 refine⟨aK,cK,aR,cR,rfl,b1,fun X bX=> ?_⟩
 refine(of_file 4 (w:=X) (D:=New W w1) (fv.kept (fun g hg=>⟨hg,bX.block g hg.2⟩) (KR.of bX)) (fun g hg=>Nat.lt_of_lt_of_le hg.2 bX.size) (fok_yes ho)).mono ?_
 rintro e w2 ⟨or,b2⟩
 obtain⟨v2,rfl,gv⟩:=of_is or hg
 have gm:=grM_of gv (fun a n c l h=>⟨h.2.1,h.2.2.1⟩)
 obtain⟨a,c,b,d,rfl,-⟩:=id gm
 exact⟨a,c,b,d,rfl,gm,b2⟩
def kV (g:GR):List Bool:=if gramB g.1=true then nuL g.1 else []
end Go.Proofs.YtcblkmlcbedomaaGreatDoor.Nl

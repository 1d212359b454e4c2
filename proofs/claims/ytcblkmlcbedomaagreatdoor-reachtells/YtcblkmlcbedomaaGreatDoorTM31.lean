/- Parts of the proof that stand ahead of it (T 31). -/
import Derived.Test.YtcblkmlcbedomaaGreatDoorTM30
set_option linter.unusedVariables false
set_option linter.unusedSimpArgs false
set_option maxRecDepth 20000
set_option maxHeartbeats 16000000
namespace Go.Proofs.YtcblkmlcbedomaaGreatDoor.F
open Go.RowKit Go.Proofs.YtcblkmlcbedomaaGreatDoor.T Go.Proofs.YtcblkmlcbedomaaGreatDoor.R
theorem seq_congr {f g:PF}:∀(ps:List PT),(∀x∈ps,∀m l,f m l x=g m l x)→∀m l,Za f ps m l=Za g ps m l:=by
 intro ps
 induction ps with
 |nil=>intro _ m l;rfl
 |cons p ps ih=>
  intro h m l
  unfold Za
  rw[h p (List.mem_cons_self ..),ih (fun x hx=>h x (List.mem_cons_of_mem _ hx))]
theorem each_congr {f g:PF}:∀(ps:List PT),(∀x∈ps,∀m l,f m l x=g m l x)→∀m a,jx f ps m a=jx g ps m a:=by
 intro ps
 induction ps with
 |nil=>intro _ m a;rfl
 |cons p ps ih=>
  intro h m a
  unfold jx
  rw[h p (List.mem_cons_self ..),ih (fun x hx=>h x (List.mem_cons_of_mem _ hx))]
theorem only_congr {f g:PF} (p:PT) (h:∀x∈psP p,∀m l,f m l x=g m l x) (m:Mk):xV f p m=xV g p m:=by
 unfold xV
 split
 ·rename_i x e
  rw[h x (by rw[e];simp)]
 ·rfl
theorem way_congr (ns:List (List Int)) {f g:PF} (p:PT) (h:∀x∈psP p,∀m l,f m l x=g m l x) (m:Mk) (l:List SY):j4 ns f m l p=j4 ns g m l p:=by
 have ha:∀n m,kW f p n m=kW g p n m:=fun n m=>by
  unfold kW
  rw[each_congr _ h,only_congr p h]
 unfold j4
 rw[seq_congr _ h]
 unfold kw
 simp only[ha]
theorem part_fuel (ns:List (List Int)):∀(n k:Nat) (d:Int) (p:PT),smP n p→smP k p→∀m l,zQ ns n d m l p=zQ ns k d m l p:=by
 intro n
 induction n with
 |zero=>intro k d p h;exact h.elim
 |succ n ih=>
  intro k d p h h2 m l
  cases k with
  |zero=>exact h2.elim
  |succ k=>
   unfold zQ
   split
   ·rfl
   ·exact way_congr ns p (fun x hx m l=>ih k (d+1) x (h.2.2.2 x hx) (h2.2.2.2 x hx) m l) _ _
theorem ruleA_fuel (ns:List (List Int)) (n k:Nat) (p:PT) (h:smP n p) (h2:smP k p) (m:Mk):kj ns n p m=kj ns k p m:=by
 have hc:∀x∈psP p,∀m l,zQ ns n 0 m l x=zQ ns k 0 m l x:=by
  intro x hx m l
  cases n with
  |zero=>exact h.elim
  |succ n=>
   cases k with
   |zero=>exact h2.elim
   |succ k=>
    exact part_fuel ns _ _ 0 x (smP_up n (n+1) (Nat.le_succ n) x (h.2.2.2 x hx)) (smP_up k (k+1) (Nat.le_succ k) x (h2.2.2.2 x hx)) m l
 unfold kj
 rw[each_congr _ hc,part_fuel ns n k 0 p h h2]
theorem rules_fuel (ns:List (List Int)) (n k:Nat):∀(l:List RU) (i:Nat) (m:Mk),(∀u∈l,smP n u.2.2.1∧smP k u.2.2.1)→Zy ns n l i m=Zy ns k l i m:=by
 intro l
 induction l with
 |nil=>intro i m _;rfl
 |cons u l ih=>
  intro i m h
  have h1:=h u (List.mem_cons_self ..)
  unfold Zy
  rw[ruleA_fuel ns n k _ h1.1 h1.2,ih _ _ (fun x hx=>h x (List.mem_cons_of_mem _ hx))]
theorem flat_fuel (n k:Nat) (f:List (List Int)×List RU) (h:∀u∈f.2,smP n u.2.2.1∧smP k u.2.2.1):flatL n f=flatL k f:=by
 unfold flatL Zu
 rw[rules_fuel _ n k _ _ _ h]
def smB:Nat→PT→Bool
 |0,_=>false
 |n+1,p=>decide ((txP p).length≤1000000)&&(decide ((rgP p).length≤1000000)&&(decide ((psP p).length≤1000000)&&(psP p).all (smB n)))
theorem smB_yes:∀(n:Nat) (p:PT),smB n p=true→smP n p:=by
 intro n
 induction n with
 |zero=>intro p h;cases h
 |succ n ih=>
  intro p h
  unfold smB at h
  simp only[Bool.and_eq_true,decide_eq_true_eq,List.all_eq_true]at h
  exact⟨h.1,h.2.1,h.2.2.1,fun x hx=>ih x (h.2.2.2 x hx)⟩
structure FOK (n:Nat) (f:List (List Int)×List RU):Prop where
 keys:f.1.length≤1000000
 rules:f.2.length≤1000000
 nots:∀u∈f.2,u.2.2.2.1.length≤1000000
 parts:∀u∈f.2,smP n u.2.2.1
def fokB (n:Nat) (f:List (List Int)×List RU):Bool:=decide (f.1.length≤1000000)&&(decide (f.2.length≤1000000)&&(f.2.all (fun u=>decide (u.2.2.2.1.length≤1000000))&&f.2.all (fun u=>smB n u.2.2.1)))
theorem fok_yes {n:Nat} {f:List (List Int)×List RU} (h:fokB n f=true):FOK n f:=by
 unfold fokB at h
 simp only[Bool.and_eq_true,decide_eq_true_eq,List.all_eq_true]at h
 exact⟨h.1,h.2.1,fun u hu=>h.2.2.1 u hu,fun u hu=>smB_yes _ _ (h.2.2.2 u hu)⟩
theorem of_file {D:Nat→Prop} {w:World} {v:Value} {f:List (List Int)×List RU} (n:Nat) (h:FileV D w v f) (hD:∀g,D g→g<w.heap.size) (hf:FOK n f):
  Calls Tryz.prog 37 #[v] w fun e w'=>OfR w (flatL n f) e w'∧Below w.heap.size w w':=by
 obtain⟨aK,cK,aR,cR,rfl,hK,cs,hl,h5,hc⟩:=h
 obtain⟨k,hk⟩:=rules_n hD _ _ hc
 have hN:=Nat.le_max_left n k
 have e:flatL n f=flatL (max n k) f:=flat_fuel _ _ _ (fun u hu=>⟨hf.parts u hu,smP_up n _ hN _ (hf.parts u hu)⟩)
 rw[e]
 obtain⟨K,L⟩:=f
 refine of_at (max n k) aK cK aR cR K L hK ⟨rfl,hf.rules,⟨h5.1,h5.2.1⟩,cs,h5.kept (fun g hg=>⟨hD g hg,rfl⟩),RuC.mono (fun u q hq=>hq.up (Nat.le_max_right n k)) _ _ hk⟩ hD hf.keys hf.nots (fun u hu=>smP_up n _ hN _ (hf.parts u hu))
theorem drop_get {α:Type} {l:List α} {j:Nat} {p q:α} {t:List α} (hd:l.drop j=q::t) (hj:l[j]? =some p):q=p:=by
 have h:(l.drop j)[0]? =l[j]? :=by rw[List.getElem?_drop];rfl
 rw[hd,hj]at h
 injection h
theorem prod_get {D:Nat→Prop} {w:World} {a:Option Addr} {len cap:Nat} {cs:List Value} {l:List PRD} (hr:RowT 41 D w a len cap cs) (hp:PrC D w l cs) {j:Nat} {p:PRD} (hj:l[j]? =some p):∃g off x0 k0 x2 k2,a=some ⟨g,off,none⟩∧g<w.heap.size∧w.cell? ⟨g,off+3*j,none⟩=some (.slice x0 p.1.length k0)∧w.cell? ⟨g,off+3*j+1,none⟩=some (.int .i64 p.2.1)∧w.cell? ⟨g,off+3*j+2,none⟩=some (.slice x2 p.2.2.length k2)∧AltV D w (.slice x0 p.1.length k0) p.1∧NotV w (.slice x2 p.2.2.length k2) p.2.2:=by
 obtain⟨g,off,x0,n0,k0,x2,n2,k2,q,h1,h2,h3,h4,h5,ha,hn,hd,hm⟩:=prods_at hr hp j (List.getElem?_eq_some_iff.1 hj).1
 obtain rfl:=drop_get hd hj
 obtain⟨xa,xc,xs,e0,-⟩:=id ha
 obtain⟨ya,yc,e2,-⟩:=id hn
 injection e0 with e01 e02 e03
 injection e2 with e21 e22 e23
 subst e02;subst e22
 exact⟨g,off,x0,k0,x2,k2,h1,h2,h3,h4,h5,ha,hn⟩
theorem alt_get {D:Nat→Prop} {w:World} {a:Option Addr} {c:Nat} {A:List (List SY)} (h:AltV D w (.slice a A.length c) A) {j:Nat} {l:List SY} (hj:A[j]? =some l):∃g off x cc,a=some ⟨g,off,none⟩∧g<w.heap.size∧w.cell? ⟨g,off+j,none⟩=some (.slice x l.length cc)∧SymsV D w (.slice x l.length cc) l:=by
 obtain⟨g,off,x,cc,q,h1,h2,h3,hd,hs⟩:=h.at j (List.getElem?_eq_some_iff.1 hj).1
 obtain rfl:=drop_get hd hj
 exact⟨g,off,x,cc,h1,h2,h3,hs⟩
theorem sym_get {D:Nat→Prop} {w:World} {x:Option Addr} {cc n:Nat} {l:List SY} (h:SymsV D w (.slice x n cc) l) {j:Nat} {s:SY} (hj:l[j]? =some s):∃g off a c,x=some ⟨g,off,none⟩∧g<w.heap.size∧w.cell? ⟨g,off+3*j,none⟩=some (.int .i64 s.1)∧w.cell? ⟨g,off+3*j+1,none⟩=some (.slice a s.2.1.length c)∧w.cell? ⟨g,off+3*j+2,none⟩=some (.int .i64 s.2.2)∧Rs w a s.2.1.length c s.2.1:=by
 obtain⟨g,off,q,a,c,h1,h2,h3,h4,h5,hr,-,hd,-⟩:=syms_at h j (List.getElem?_eq_some_iff.1 hj).1
 obtain rfl:=drop_get hd hj
 exact⟨g,off,a,c,h1,h2,h3,h4,h5,hr⟩
theorem file_is {w:World} {l:List Int} {e:Ending} {w':World} {f:List (List Int)×List RU} (h:FileR w l e w') (hf:fileL l= .inr f):∃v,e= .returned (.tuple #[v,.int .i64 (l.length:Nat),.int .i64 0])∧FileV (New w w') w' v f:=by
 rcases h with ⟨q,why,ea,-⟩|⟨v,f',ea,e,fv⟩
 ·rw[hf]at ea;cases ea
 ·rw[hf]at ea;injection ea with ea;subst ea;exact⟨v,e,fv⟩
theorem of_is {w:World} {r:Sum (Int×Int) GR} {e:Ending} {w':World} {g:GR} (h:OfR w r e w') (hf:r= .inr g):∃v,e= .returned (.tuple #[v,.int .i64 0,.int .i64 0])∧GramV (New w w') w' v g:=by
 rcases h with ⟨q,why,ea,-⟩|⟨g',v,ea,e,gv⟩
 ·rw[hf]at ea;cases ea
 ·rw[hf]at ea;injection ea with ea;subst ea;exact⟨v,e,gv⟩
end Go.Proofs.YtcblkmlcbedomaaGreatDoor.F

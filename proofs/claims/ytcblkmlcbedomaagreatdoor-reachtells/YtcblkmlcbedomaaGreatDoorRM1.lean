/- Parts of the proof that stand ahead of it (R 1). -/
import Derived.Test.YtcblkmlcbedomaaGreatDoorTM1
set_option linter.unusedVariables false
set_option linter.unusedSimpArgs false
set_option maxRecDepth 20000
set_option maxHeartbeats 16000000
namespace Go.Proofs.YtcblkmlcbedomaaGreatDoor.K
def swp (l:List Int) (i j:Nat):List Int:=(l.set i (l.getD j 0)).set j (l.getD i 0)
theorem swp_len (l:List Int) (i j:Nat):(swp l i j).length=l.length:=by simp[swp]
theorem set_getD {l:List Int} {i:Nat} {x:Int} (k:Nat) (h:i<l.length):(l.set i x).getD k 0=if k=i then x else l.getD k 0:=by
 rw[List.getD_eq_getElem?_getD,List.getElem?_set,List.getD_eq_getElem?_getD]
 by_cases e:i=k
 ·subst e;simp[h]
 ·rw[if_neg e,if_neg (fun h=>e h.symm)]
theorem swp_at {l:List Int} {i j:Nat} (hi:i<l.length) (hj:j<l.length) (k:Nat):(swp l i j).getD k 0=if k=j then l.getD i 0 else if k=i then l.getD j 0 else l.getD k 0:=by
 unfold swp
 rw[set_getD k (by simpa using hj),set_getD k hi]
theorem swp_perm {l:List Int} {i j:Nat} (hi:i<l.length) (hj:j<l.length):(swp l i j).Perm l:=by
 unfold swp
 rw[List.getD_eq_getElem?_getD,List.getD_eq_getElem?_getD,List.getElem?_eq_getElem hi,List.getElem?_eq_getElem hj]
 simp only[Option.getD_some]
 exact List.set_set_perm hi hj
def HpB (l:List Int) (n base:Nat):Prop:=∀c,1≤c→c<n→base≤(c-1)/2→l.getD ((c-1)/2) 0≤l.getD c 0
def Hp (l:List Int):Prop:=HpB l l.length 0
def UpI (l:List Int) (j:Nat):Prop:=
 (∀c,1≤c→c<l.length→c≠j→l.getD ((c-1)/2) 0≤l.getD c 0)∧(∀c,1≤c→c<l.length→(c-1)/2=j→1≤j→l.getD ((j-1)/2) 0≤l.getD c 0)
theorem UpI.step {l:List Int} {j:Nat} (h:UpI l j) (hj:j<l.length) (h1:1≤j) (hlt:l.getD j 0<l.getD ((j-1)/2) 0):UpI (swp l ((j-1)/2) j) ((j-1)/2):=by
 obtain⟨ha,hb⟩:=h
 have hi:(j-1)/2<l.length:=by omega
 have sw:=swp_at hi hj
 have hij:(j-1)/2≠j:=by omega
 refine⟨fun c c1 c2 c3=> ?_,fun c c1 c2 c3 c4=> ?_⟩
 ·rw[swp_len]at c2
  rw[sw,sw]
  by_cases e:c=j
  ·subst e
   rw[if_neg hij,if_pos rfl,if_pos rfl];omega
  ·rw[if_neg e,if_neg c3]
   by_cases e2:(c-1)/2=j
   ·rw[if_pos e2]
    exact hb c c1 c2 e2 h1
   ·rw[if_neg e2]
    by_cases e3:(c-1)/2=(j-1)/2
    ·rw[if_pos e3]
     have:=ha c c1 c2 e
     rw[e3]at this;omega
    ·rw[if_neg e3];exact ha c c1 c2 e
 ·rw[swp_len]at c2
  rw[sw,sw]
  have k1:((j-1)/2-1)/2≠j:=by omega
  have k2:((j-1)/2-1)/2≠(j-1)/2:=by omega
  rw[if_neg k1,if_neg k2]
  have hpar:=ha ((j-1)/2) c4 hi hij
  by_cases e:c=j
  ·subst e;rw[if_pos rfl];exact hpar
  ·have e2:c≠(j-1)/2:=by omega
   rw[if_neg e,if_neg e2]
   have:=ha c c1 c2 e
   rw[c3]at this;omega
theorem UpI.stop {l:List Int} {j:Nat} (h:UpI l j) (hs:j=0∨¬l.getD j 0<l.getD ((j-1)/2) 0):Hp l:=by
 intro c c1 c2 _
 by_cases e:c=j
 ·subst e
  rcases hs with hs|hs
  ·omega
  ·omega
 ·exact h.1 c c1 c2 e
theorem UpI.snoc {l:List Int} (h:Hp l) (x:Int):UpI (l++[x]) l.length:=by
 have ga:∀c,c<l.length→(l++[x]).getD c 0=l.getD c 0:=fun c hc=>by
  rw[List.getD_eq_getElem?_getD,List.getD_eq_getElem?_getD,List.getElem?_append_left hc]
 refine⟨fun c c1 c2 c3=> ?_,fun c c1 c2 c3 c4=> ?_⟩
 ·rw[List.length_append,List.length_singleton]at c2
  rw[ga c (by omega),ga _ (by omega)]
  exact h c c1 (by omega) (Nat.zero_le _)
 ·rw[List.length_append,List.length_singleton]at c2
  omega
end Go.Proofs.YtcblkmlcbedomaaGreatDoor.K

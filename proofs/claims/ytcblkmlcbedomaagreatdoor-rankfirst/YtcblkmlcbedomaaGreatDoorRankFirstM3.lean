/- Parts of the proof that stand ahead of it (RankFirst 3). -/
import Derived.Test.YtcblkmlcbedomaaGreatDoorKM13
set_option linter.unusedVariables false
set_option linter.unusedSimpArgs false
set_option maxRecDepth 20000
set_option maxHeartbeats 16000000
namespace Go.Proofs.YtcblkmlcbedomaaGreatDoor.K
open Go.RowKit Go.Shelf Go.Proofs.YtcblkmlcbedomaaGreatDoor.T Go.Proofs.YtcblkmlcbedomaaGreatDoor.R Go.Proofs.YtcblkmlcbedomaaGreatDoor.F Go.Proofs.YtcblkmlcbedomaaGreatDoor.Nl
theorem count_step {l:List Int} {k:Nat} {y x:Int} (h:l[k]? =some y):(l.take (k+1)).count x=(l.take k).count x+if y=x then 1 else 0:=by
 obtain⟨hk,rfl⟩:=List.getElem?_eq_some_iff.1 h
 rw[List.take_succ_eq_append_getElem hk,List.count_append,List.count_singleton]
 congr 1
 simp
theorem ns_later {w X:World} {v:Value} {l:List Int} (h:Ns w v l) (b:Below w.heap.size w X):Ns X v l:=CeV.later (enc:=Value.int .i64) h b
theorem rankFirst_walk (v:Value) (l:List Int) (x:Int) (w:World) (h:Ns w v l):
  Calls Tryz.prog 5 #[v,.int .i64 x] w fun e w'=>e= .returned (.bool true)∧Below w.heap.size w w':=by
 have CA:=zk (fun W=>awake10_l W)
 obtain⟨a,c,rfl,hc1,hc2,-⟩:=id h
 unfold maxLen at hc2
 have HN:=zk h
 have CF:Hid (l.length≤100→∀W,Below w.heap.size w W→Calls Tryz.prog 19 #[.slice a l.length c] W fun e w'=>∃(v':Value) (out:List Int),e= .returned v'∧w'.ownsRow W.heap.size 3 1 v' out.length (out.map (Value.int .i64))∧out.Perm l∧out.Pairwise (· ≤ ·)∧Below W.heap.size W w'):=
  fun h100 W bW=>first_l _ l W (ns_later h bW) (by omega)
 clear h
 generalize hn:l.length=n at*
 have HL:=zk hn
 clear hn
 by_cases h100:100<n
 ·have b1:decide ((100:Int)<(n:Int))=true:=decide_eq_true (by omega)
  have b2:decide (100<n)=true:=decide_eq_true h100
  clear CF h100
  go_enter Tryz.func5,Tryz.ntmps5
  go_wp2_with fail
  refine(zq CA _).mono ?_
  rintro e w1 ⟨rfl,b1⟩
  have B1:=zk b1
  clear CA b1
  go_wp2_with fail
  go_ret
  exact⟨rfl,zq B1⟩
 ·have b1:decide ((100:Int)<(n:Int))=false:=decide_eq_false (by omega)
  have b2:decide (100<n)=false:=decide_eq_false h100
  have hn100:n≤100:=by omega
  clear h100
  go_enter Tryz.func5,Tryz.ntmps5
  go_wp2_with fail
  refine(zq CA _).mono ?_
  rintro e w1 ⟨rfl,b1'⟩
  have B1:=zk b1'
  clear CA b1'
  go_wp2_with fail
  refine(zq CF hn100 _ (zq B1)).mono ?_
  rintro e w2 ⟨v',out,rfl,own,hp,hu,b2'⟩
  have B2:=zk (Xk (zq B1) b2')
  have N2:=zk (ns_later (zq HN) (zq B2))
  have M2:Hid (Ns w2 v' out):=Ns.of_own own
  obtain⟨a2,c2,rfl,k1,k2,-⟩:=zq M2
  unfold maxLen at k2
  have PL:=zk hp.length_eq
  have PC:Hid (∀x,out.count x=l.count x):=fun x=>hp.count_eq x
  have PU:=zk hu
  generalize hm:out.length=m at*
  have HM:=zk hm
  have hmn:m=n:=by rw[zq PL,zq HL]
  subst hmn
  clear CF own hp hu b2' B1 hm PL HN
  go_wp2_with fail
  go_loopw [7,9] (fun ca i wr=>∃k ct:Nat,k≤m∧ct≤k∧i= .int .i64 (k:Int)∧ca= .int .i64 (ct:Int)∧Hid (ct=(l.take k).count x)∧wr=w2) (fun _ i _=>m-(intOf i).toNat)
  case atStart=>exact⟨0,0,Nat.zero_le _,Nat.le_refl _,rfl,rfl,rfl,rfl⟩
  case round=>
   obtain⟨k,ct,hk,hct,rfl,rfl,hC,hw⟩:=hrel
   subst hw
   by_cases hlt:k<m
   ·obtain⟨y,hy⟩:∃y,l[k]? =some y:=⟨l[k]'(by have:=zq HL;omega),List.getElem?_eq_getElem _⟩
    obtain⟨a',c',e',-,-,h3⟩:=zq N2
    injection e' with e1 e2 e3
    subst e1;subst e3
    obtain⟨g,off,rfl,hg,q⟩:=h3 k y hy
    have ST:=zk (count_step (x:=x) hy)
    clear h3 e2 hy
    by_cases hxy:y=x
    ·have bb:(y==x)=true:=by simpa using hxy
     have NX:Hid (ct+1=(l.take (k+1)).count x):=by show _=_;rw[zq ST,if_pos hxy,←zq hC]
     clear hxy ST hC
     go_wp2_with fail
     go_roundw
     case rel=>exact⟨k+1,ct+1,by omega,by omega,by simp,by simp,NX,trivial⟩
     case measure=>simp[intOf];omega
    ·have bb:(y==x)=false:=by simpa using hxy
     have NX:Hid (ct=(l.take (k+1)).count x):=by show _=_;rw[zq ST,if_neg hxy,←zq hC];rfl
     clear hxy ST hC
     go_wp2_with fail
     go_roundw
     case rel=>exact⟨k+1,ct,by omega,by omega,by simp,rfl,NX,trivial⟩
     case measure=>simp[intOf];omega
   ·obtain rfl:k=m:=by omega
    have CL:Hid (ct=l.count x):=by show _=_;rw[zq hC,←zq HL,List.take_length]
    clear hC hlt N2
    go_wp2_with fail
    go_loopw [8,10] (fun cb i wr=>∃q cs:Nat,q≤k∧cs≤q∧i= .int .i64 (q:Int)∧cb= .int .i64 (cs:Int)∧Hid (cs=(out.take q).count x)∧Hid (Below wr.heap.size wr wr∧Below w.heap.size w wr∧Ns wr (.slice a2 k c2) out)) (fun _ i _=>k-(intOf i).toNat)
    case atStart=>exact⟨0,0,Nat.zero_le _,Nat.le_refl _,rfl,rfl,rfl,Below.refl _ _,zq B2,zq M2⟩
    case round=>
     obtain⟨q,cs,hq,hcs,rfl,rfl,hC,hB⟩:=hrel
     obtain⟨-,hB1,hN1⟩:=zq hB
     by_cases hlq:q<k
     ·obtain⟨y,hy⟩:∃y,out[q]? =some y:=⟨out[q]'(by have:=zq HM;omega),List.getElem?_eq_getElem _⟩
      obtain⟨a',c',e',-,-,h3⟩:=id hN1
      injection e' with e1 e2 e3
      subst e1;subst e3
      obtain⟨g,off,rfl,hg,qy⟩:=h3 q y hy
      have ST:=zk (count_step (x:=x) hy)
      have DB:=zk (fun X (bX:Below wr.heap.size wr X)=>(⟨Below.refl _ _,hB1.trans (bX.mono hB1.size),ns_later hN1 bX⟩:Below X.heap.size X X∧Below w.heap.size w X∧Ns X (.slice (some ⟨g,off,none⟩) k c2) out))
      have lef:∀r z,q=r+1→out[r]? =some z→z≤y:=fun r z e hz=>by
       obtain⟨l1,e1⟩:=List.getElem?_eq_some_iff.1 hz
       obtain⟨l2,e2⟩:=List.getElem?_eq_some_iff.1 hy
       have:=List.pairwise_iff_getElem.1 (zq PU) r q l1 l2 (by omega)
       omega
      rcases Nat.eq_zero_or_pos q with h0|h0
      ·subst h0
       rw[Nat.add_zero]at qy
       clear h3 hy hB hN1 lef hB1 e2
       by_cases hxy:y=x
       ·have bb:(y==x)=true:=by simpa using hxy
        have NX:Hid (cs+1=(out.take (0+1)).count x):=by show _=_;rw[zq ST,if_pos hxy,←zq hC]
        clear hxy ST hC
        go_wp2_with fail
        go_quiet (fail)
        go_wp2_with fail
        exact⟨⟨0+1,cs+1,by omega,by omega,by simp,by simp,NX,zq DB _ T.zX⟩,by simp[intOf];omega⟩
       ·have bb:(y==x)=false:=by simpa using hxy
        have NX:Hid (cs=(out.take (0+1)).count x):=by show _=_;rw[zq ST,if_neg hxy,←zq hC];rfl
        clear hxy ST hC
        go_wp2_with fail
        go_quiet (fail)
        go_wp2_with fail
        exact⟨⟨0+1,cs,by omega,by omega,by simp,rfl,NX,zq DB _ T.zX⟩,by simp[intOf];omega⟩
      ·obtain⟨r,rfl⟩:∃r,q=r+1:=⟨q-1,by omega⟩
       obtain⟨z,hz⟩:∃z,out[r]? =some z:=⟨out[r]'(by have:=zq HM;omega),List.getElem?_eq_getElem _⟩
       obtain⟨g',off',eg,-,qz⟩:=h3 r z hz
       injection eg with eg
       injection eg with eg1 eg2
       subst eg1;subst eg2
       have hzy:=lef r z rfl hz
       have bq:decide (y<z)=false:=decide_eq_false (by omega)
       have b0:decide (0<r+1)=true:=decide_eq_true h0
       have b00:decide ((0:Int)<(r:Int)+1)=true:=decide_eq_true (by omega)
       clear h3 hy hz hB hN1 lef hB1 e2 h0
       by_cases hxy:y=x
       ·have bb:(y==x)=true:=by simpa using hxy
        have NX:Hid (cs+1=(out.take (r+1+1)).count x):=by show _=_;rw[zq ST,if_pos hxy,←zq hC]
        clear hxy ST hC
        go_wp2_with fail
        go_quiet (fail)
        go_wp2_with fail
        exact⟨⟨r+1+1,cs+1,by omega,by omega,by simp,by simp,NX,zq DB _ T.zX⟩,by simp[intOf];omega⟩
       ·have bb:(y==x)=false:=by simpa using hxy
        have NX:Hid (cs=(out.take (r+1+1)).count x):=by show _=_;rw[zq ST,if_neg hxy,←zq hC];rfl
        clear hxy ST hC
        go_wp2_with fail
        go_quiet (fail)
        go_wp2_with fail
        exact⟨⟨r+1+1,cs,by omega,by omega,by simp,rfl,NX,zq DB _ T.zX⟩,by simp[intOf];omega⟩
     ·obtain rfl:q=k:=by omega
      have hcc:cs=ct:=by
       rw[zq CL,zq hC,←zq HM,List.take_length]
       exact zq PC x
      have bb:((ct:Int)==(cs:Int))=true:=by rw[hcc];simp
      have bb2:(ct==cs)=true:=by rw[hcc];simp
      have HB:=zk hB1
      clear hcc hC hB hN1 hB1
      go_wp2_with fail
      go_ret
      exact⟨rfl,zq HB⟩
end Go.Proofs.YtcblkmlcbedomaaGreatDoor.K

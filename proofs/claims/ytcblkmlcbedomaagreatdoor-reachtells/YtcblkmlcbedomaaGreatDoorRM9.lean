/- Parts of the proof that stand ahead of it (R 9). -/
import Derived.Test.YtcblkmlcbedomaaGreatDoorRM3
import Derived.Test.YtcblkmlcbedomaaGreatDoorTM30
set_option linter.unusedVariables false
set_option linter.unusedSimpArgs false
set_option maxRecDepth 20000
set_option maxHeartbeats 16000000
namespace Go.Proofs.YtcblkmlcbedomaaGreatDoor.F
open Go.RowKit Go.Proofs.YtcblkmlcbedomaaGreatDoor.T Go.Proofs.YtcblkmlcbedomaaGreatDoor.R
theorem ofBytes_l (a:Option Addr) (c:Nat) (l:List (Int×Int)) (w:World) (h:Rs w a l.length c l):
  Calls Tryz.prog 124 #[.slice a l.length c] w fun e w'=>e= .returned (.bool (byB l))∧w'=w:=by
 have hc:=h.hcap
 have hm:=h.hmax
 unfold maxLen at hm
 unfold byB
 by_cases h0:l.length=0
 ·have b0:((l.length:Int)==0)=true:=by rw[h0];rfl
  rw[decide_eq_true h0]
  clear h
  generalize l.length=n at*
  clear h0
  go_enter Tryz.func124,Tryz.ntmps124
  go_wp2_with fail
  go_ret
  exact⟨rfl,rfl⟩
 ·have b0:((l.length:Int)==0)=false:=beq_eq_false_iff_ne.2 (by omega)
  rw[decide_eq_false h0]
  obtain⟨g,off,e,-,q2⟩:=h.hcell (l.length-1) (by omega)
  subst e
  have hg:g<w.heap.size:=zJ q2
  clear h
  have hx:((l.length:Int)-1)=((l.length-1:Nat):Int):=by omega
  have h1:l.length-1<l.length:=by omega
  generalize hi:l.length-1=i at*
  generalize (l.getD i (0,0)).2=H at*
  generalize l.length=n at*
  have HX:=zk hx
  clear hx hi
  have i2:i*2=2*i:=by omega
  rw[i2]at q2
  have ev:(n:Int)-1=(i:Int):=zq HX
  clear HX
  go_enter Tryz.func124,Tryz.ntmps124
  go_wp2_with fail
  go_ret
  exact⟨by simp,rfl⟩
theorem maySym_l (s:SY) (a:Option Addr) (c:Nat) (many:Int) (w:World) (h:Rs w a s.2.1.length c s.2.1):
  Calls Tryz.prog 80 #[.agg #[.int .i64 s.1,.slice a s.2.1.length c,.int .i64 s.2.2],.int .i64 many] w fun e w'=>e= .returned (.bool (symB s many))∧Below w.heap.size w w':=by
 have B1:∀o,Below w.heap.size w (w.alloc o):=fun o=>Below.new1 o
 have CM:=zk (fun W (bW:Below w.heap.size w W)=>rgMay_any a s.2.1.length c s.2.1 W (h.later bW (Nat.le_refl _)))
 have CB:=zk (fun W (bW:Below w.heap.size w W)=>ofBytes_l a c s.2.1 W (h.later bW (Nat.le_refl _)))
 obtain⟨k,R,N⟩:=s
 simp only at h CM CB⊢
 have hc:=h.hcap
 have hm:=h.hmax
 unfold maxLen at hm
 unfold symB
 simp only
 clear h
 generalize G.zo R=rm at*
 generalize byB R=rb at*
 generalize R.length=n at*
 by_cases hk0:k=0
 ·have hk:=hk0
  clear hk0
  rw[if_pos hk]
  have bk:(k==0)=true:=by rw[hk];rfl
  clear hk
  by_cases hN:N=0
  ·have bn:(N==0)=true:=by rw[hN];rfl
   rw[decide_eq_true hN]
   clear hN
   cases rm with
   |false=>
    clear CB
    go_enter Tryz.func80,Tryz.ntmps80
    go_wp2_with fail
    refine(zq CM _ (B1 _)).mono ?_
    rintro e w1 ⟨rfl,b1⟩
    clear CM
    go_wp2_with fail
    go_ret
    exact⟨by simp,zY (B1 _) b1⟩
   |true=>
    go_enter Tryz.func80,Tryz.ntmps80
    go_wp2_with fail
    refine(zq CM _ (B1 _)).mono ?_
    rintro e w1 ⟨rfl,b1⟩
    clear CM
    obtain⟨⟨x0,x1,x2⟩,-⟩:=jJ (ze b1)
    go_wp2_with fail
    refine(zq CB _ (zY (B1 _) b1)).mono ?_
    rintro e w2 ⟨rfl,hw2⟩
    subst hw2
    clear CB
    go_wp2_with fail
    go_ret
    exact⟨by simp,zY (B1 _) b1⟩
  ·have bn:(N==0)=false:=beq_eq_false_iff_ne.2 hN
   rw[decide_eq_false hN]
   clear hN CM CB
   go_enter Tryz.func80,Tryz.ntmps80
   go_wp2_with fail
   go_ret
   exact⟨by simp,B1 _⟩
 ·by_cases hk1:k=1
  ·have hk:=hk1
   clear hk1
   rw[if_neg hk0,if_pos hk]
   have bk0:(k==0)=false:=beq_eq_false_iff_ne.2 hk0
   have bk:(k==1)=true:=by rw[hk];rfl
   clear hk hk0
   by_cases hN:N=0
   ·have bn:(N==0)=true:=by rw[hN];rfl
    rw[decide_eq_true hN]
    clear hN CB
    go_enter Tryz.func80,Tryz.ntmps80
    go_wp2_with fail
    refine(zq CM _ (B1 _)).mono ?_
    rintro e w1 ⟨rfl,b1⟩
    clear CM
    go_wp2_with fail
    go_ret
    exact⟨by simp,zY (B1 _) b1⟩
   ·have bn:(N==0)=false:=beq_eq_false_iff_ne.2 hN
    rw[decide_eq_false hN]
    clear hN CM CB
    go_enter Tryz.func80,Tryz.ntmps80
    go_wp2_with fail
    go_ret
    exact⟨by simp,B1 _⟩
  ·by_cases hk:k=2
   ·rw[if_neg hk0,if_neg hk1,if_pos hk]
    have bk0:(k==0)=false:=beq_eq_false_iff_ne.2 hk0
    have bk1:(k==1)=false:=beq_eq_false_iff_ne.2 hk1
    have bk:(k==2)=true:=by rw[hk];rfl
    clear hk hk0 hk1 CM CB
    by_cases hN:0≤N
    ·have bn:decide (0≤N)=true:=decide_eq_true hN
     rw[bn]
     by_cases hM:N<many
     ·have bm:decide (N<many)=true:=decide_eq_true hM
      rw[bm]
      clear hN hM
      have e0:decide (n=0)=((n:Int)==0):=by by_cases h:n=0<;>simp[h]
      rw[e0]
      go_enter Tryz.func80,Tryz.ntmps80
      go_wp2_with fail
      go_ret
      exact⟨by simp,B1 _⟩
     ·have bm:decide (N<many)=false:=decide_eq_false hM
      rw[bm]
      clear hN hM
      go_enter Tryz.func80,Tryz.ntmps80
      go_wp2_with fail
      go_ret
      exact⟨by simp,B1 _⟩
    ·have bn:decide (0≤N)=false:=decide_eq_false hN
     rw[bn]
     clear hN
     go_enter Tryz.func80,Tryz.ntmps80
     go_wp2_with fail
     go_ret
     exact⟨by simp,B1 _⟩
   ·rw[if_neg hk0,if_neg hk1,if_neg hk]
    have bk0:(k==0)=false:=beq_eq_false_iff_ne.2 hk0
    have bk1:(k==1)=false:=beq_eq_false_iff_ne.2 hk1
    have bk:(k==2)=false:=beq_eq_false_iff_ne.2 hk
    clear hk hk0 hk1 CM CB
    go_enter Tryz.func80,Tryz.ntmps80
    go_wp2_with fail
    go_ret
    exact⟨rfl,B1 _⟩
theorem GramV.kp {D D':Nat→Prop} {w X:World} {v:Value} {g:GR} (h:GramV D w v g) (k:∀g o,D g→w.heap[g]? =some o→D' g∧X.heap[g]? =some o) (kr:KR w X) (hs:∀g,D g→g<w.heap.size):GramV D' X v g:=by
 obtain⟨a,c,cs,aK,cK,e,h1,h2,h3⟩:=h
 refine⟨a,c,cs,aK,cK,e,h1.kept (fun g cur fr hd hg=>k g _ hd hg),PrC.kp ⟨kr,fun g cur fr t _ hd hg=>k g _ hd hg⟩ _ _ h2,h3.kept (fun g hg=> ?_)⟩
 have hlt:=hs g hg
 obtain⟨k1,k2⟩:=k g _ hg (Array.getElem?_eq_getElem hlt)
 exact⟨k1,k2.trans (Array.getElem?_eq_getElem hlt).symm⟩
end Go.Proofs.YtcblkmlcbedomaaGreatDoor.F

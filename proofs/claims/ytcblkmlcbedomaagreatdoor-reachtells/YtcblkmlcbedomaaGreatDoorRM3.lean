/- Parts of the proof that stand ahead of it (R 3). -/
import Derived.Test.YtcblkmlcbedomaaGreatDoorTM5
set_option linter.unusedVariables false
set_option linter.unusedSimpArgs false
set_option maxRecDepth 20000
set_option maxHeartbeats 16000000
namespace Go.Proofs.YtcblkmlcbedomaaGreatDoor
open Go.RowKit
theorem Xe {least lo hi:Int} {t:List (Int×Int)}:G.yZ least ((lo,hi)::t)=(decide (least≤lo)&&decide (lo≤hi)&&decide (hi≤1114111)&&G.yZ (hi+2) t):=rfl
theorem rgMay_any (a:Option Addr) (len cap:Nat) (l:List (Int×Int)) (w:World) (h:Rs w a len cap l):
  Calls Tryz.prog 79 #[.slice a len cap] w fun e w'=>e= .returned (.bool (G.zo l))∧Below w.heap.size w w':=by
 have hl:=h.hlen
 have hmax:=h.hmax
 have hcap:=h.hcap
 unfold maxLen at hmax
 go_enter Tryz.func79,Tryz.ntmps79
 go_wp2
 go_loopw [3,8] (fun t i wr=>∃(k:Nat) (least:Int),k≤len∧i= .int .i64 k∧t= .int .i64 least∧0≤least∧least≤1114113∧Hid (G.yZ least (l.drop k)=G.zo l)∧Below w.heap.size w wr) (fun _ i _=>len-(intOf i).toNat)
 case atStart=>exact⟨0,0,Nat.zero_le _,rfl,rfl,by omega,by omega,by show G.yZ 0 l=G.zo l;rfl,Below.refl _ _⟩
 case round=>
  obtain⟨k,least,hk,rfl,rfl,hl0,hl1,hn,hb⟩:=hrel
  by_cases hlt:k<len
  ·obtain⟨b,off,rfl,hr⟩:=(h.later hb (Nat.le_refl _)).open (by omega)
   obtain⟨lo,hi,hd,-,f1,f2,c0,c1⟩:=hr.at k hlt
   unfold yQ at f1 f2
   have hd':Hid (l.drop k=(lo,hi)::l.drop (k+1)):=hd
   clear hd hr
   by_cases t1:lo<least
   ·have fin:Hid (G.zo l=false):=by
     show G.zo l=false
     rw[←hn.out,hd'.out,Xe,decide_eq_false (by omega)];simp
    go_wp2
    go_ret
    exact⟨ret_bool fin.out.symm,hb.trans ((Below.new1 _).mono hb.size)⟩
   ·by_cases t2:hi<lo
    ·have fin:Hid (G.zo l=false):=by
      show G.zo l=false
      rw[←hn.out,hd'.out,Xe,decide_eq_false (show¬lo≤hi by omega)];simp
     go_wp2
     go_ret
     exact⟨ret_bool fin.out.symm,hb.trans ((Below.new1 _).mono hb.size)⟩
    ·by_cases t3:1114111<hi
     ·have fin:Hid (G.zo l=false):=by
       show G.zo l=false
       rw[←hn.out,hd'.out,Xe,decide_eq_false (show¬hi≤1114111 by omega)];simp
      go_wp2
      go_ret
      exact⟨ret_bool fin.out.symm,hb.trans ((Below.new1 _).mono hb.size)⟩
     ·have fin:Hid (G.yZ (hi+2) (l.drop (k+1))=G.zo l):=by
       show _=G.zo l
       rw[←hn.out,hd'.out,Xe,decide_eq_true (show least≤lo by omega),decide_eq_true (show lo≤hi by omega),decide_eq_true (show hi≤1114111 by omega)];simp
      go_wp2
      go_roundw
      case rel=>exact⟨k+1,hi+2,by omega,by go_num,rfl,by omega,by omega,fin,hb.trans ((Below.new1 _).mono hb.size)⟩
      case measure=>simp[intOf];omega
  ·have fin:Hid (G.zo l=true):=by
    show G.zo l=true
    rw[←hn.out,List.drop_of_length_le (by omega)];rfl
   go_wp2
   go_ret
   exact⟨ret_bool fin.out.symm,hb⟩
end Go.Proofs.YtcblkmlcbedomaaGreatDoor

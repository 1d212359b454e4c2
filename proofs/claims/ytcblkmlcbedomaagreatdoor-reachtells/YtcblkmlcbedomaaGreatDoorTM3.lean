/- Parts of the proof that stand ahead of it (T 3). -/
import Derived.Test.YtcblkmlcbedomaaGreatDoorChecked
import Derived.WalkSpells
import Derived.WalkLawsBesides
import Derived.Test.YtcblkmlcbedomaaGreatDoorTM1
set_option linter.unusedVariables false
set_option linter.unusedSimpArgs false
set_option maxRecDepth 20000
set_option maxHeartbeats 16000000
namespace Go.Proofs.YtcblkmlcbedomaaGreatDoor
open Go.RowKit
theorem may_any (r:Int) (w:World):
  Calls Tryz.prog 230 #[.int .i64 r] w fun e w'=>e= .returned (.bool (U.zo r))∧w'=w:=by
 have key:∀b:Bool,U.zo r=b→Calls Tryz.prog 230 #[.int .i64 r] w fun e w'=>e= .returned (.bool b)∧w'=w:=by
  intro b hb
  by_cases h1:0≤r
  ·by_cases h2:r≤1114111
   ·by_cases h3:r<55296
    ·have:b=true:=by rw[←hb,U.qQ];omega
     subst this;clear hb
     go_enter Tryz.func230,Tryz.ntmps230
     go_wp2
     go_ret
     exact⟨rfl,rfl⟩
    ·by_cases h4:57343<r
     ·have:b=true:=by rw[←hb,U.qQ];omega
      subst this;clear hb
      go_enter Tryz.func230,Tryz.ntmps230
      go_wp2
      go_ret
      exact⟨rfl,rfl⟩
     ·have:b=false:=by rw[←hb];cases h:U.zo r;rfl;rw[U.qQ]at h;omega
      subst this;clear hb
      go_enter Tryz.func230,Tryz.ntmps230
      go_wp2
      go_ret
      exact⟨rfl,rfl⟩
   ·have:b=false:=by rw[←hb];cases h:U.zo r;rfl;rw[U.qQ]at h;omega
    subst this;clear hb
    go_enter Tryz.func230,Tryz.ntmps230
    go_wp2
    go_ret
    exact⟨rfl,rfl⟩
  ·have:b=false:=by rw[←hb];cases h:U.zo r;rfl;rw[U.qQ]at h;omega
   subst this;clear hb
   go_enter Tryz.func230,Tryz.ntmps230
   go_wp2
   go_ret
   exact⟨rfl,rfl⟩
 exact key _ rfl
def putObj (r:Int):Obj:= .cells ((U.vz r).map (Value.int .u8)).toArray 5
end Go.Proofs.YtcblkmlcbedomaaGreatDoor

/-
 ReachLost (P11.2) at this commit: for every nonterminals of at most 62, and 1000 symbols, that may be, the first one is never lost, who is told to be lost is not within the first one, and none ahead of it is lost; others are let be. Conditions: the card's own, the listed variables of the library read as the tie lays them.
-/
import Derived.Test.YtcblkmlcbedomaaGreatDoorReachLostLift
import Derived.Test.YtcblkmlcbedomaaGreatDoorReachLostClo
import Derived.Test.YtcblkmlcbedomaaGreatDoorRows
import Derived.Test.YtcblkmlcbedomaaGreatDoorTie
import Derived.Test.YtcblkmlcbedomaaGreatDoorCards
import Derived.WalkKit
import Derived.ProofKit
import Derived.LaidMore
import Derived.OpenShut
import Derived.ShutString
import Derived.ChangeOld
import Derived.Below
import Derived.Stop.Joined
import Derived.SevenTiedAt
import Derived.ChangeMaps5
set_option linter.unusedVariables false
set_option linter.unusedSimpArgs false
set_option maxRecDepth 20000
set_option maxHeartbeats 16000000
namespace Go.Proofs.YtcblkmlcbedomaaGreatDoor.reachLost
open Go.ChangeShapes Go.WideShapes Go.ChangeAt Go.RowKit
theorem ov_n:Tryz.pinned.checked.prog.funcNamed Rows.reachLostRow.func=some 12:=by kernel_rfl
theorem ov_i:Tryz.f12.isInstance Tryz.pinned.checked.prog Rows.reachLostRow.origin Rows.reachLostRow.targs:=of_decide_eq_true (by kernel_rfl)
theorem ov_w:Tryz.f12.isWrapper Tryz.pinned.checked.prog Rows.reachLostRow.wrapper Rows.reachLostRow.mainSum:=by unfold Func.isWrapper;first|(rw[if_pos (by decide+kernel)];kernel_rfl)|(rw[if_neg (by decide+kernel)];exact⟨rfl,rfl⟩)
theorem over:Rows.ReachLostSaid:=
 OpenClaim.holds_of_wide 12 Tryz.f12 rfl rfl rfl rfl rfl rfl rfl ⟨rfl,rfl,rfl,rfl,rfl⟩ rfl rfl rfl rfl rfl ov_n Tryz.func12 ov_c ov_i ov_w
  (fun os started H enc _=>lifted os started H enc)
theorem proved:Rows.ReachLostCardSaid:=
 Claim7.holds_tied_plain_at .later [] [.data,.pinned] true (true, "4810764afebd47b6e1d6ac1a4cee2dcb186e9c7bceabe8b9693a0a3eba8c9da8") true
  over (fun _ h=>by cases h) (by kernel_rfl) (fun _ h=>by cases h) reachLost_row_tie rfl ⟨rfl,rfl⟩ (by kernel_rfl) rfl
  (fun f fn hf hfn=>by
   obtain rfl:f=12:=Option.some.inj ((show Tryz.prog.funcNamed "exegete/exegetelaw11.ReachLost" =some 12 by kernel_rfl).symm.trans hf)|>.symm
   obtain rfl:fn=Tryz.f12:=(Option.some.inj (Tryz.func12.symm.trans hfn)).symm
   exact⟨by kernel_rfl,fun j t ht=>by
    rw[Tryz.params12]at ht
    have hm:t∈[25]:=by simpa using Array.mem_of_getElem? ht
    have hall:([25].all fun u=> !Tryz.prog.wantsStandIn u)=true:=by kernel_rfl
    exact(show Tryz.prog.wantsStandIn t=false by simpa using List.all_eq_true.1 hall t hm)⟩)
  (by kernel_rfl)
end Go.Proofs.YtcblkmlcbedomaaGreatDoor.reachLost
namespace Go.Proofs.YtcblkmlcbedomaaGreatDoor
theorem reachLost_holds:Rows.ReachLostCardSaid:=reachLost.proved
end Go.Proofs.YtcblkmlcbedomaaGreatDoor

/-
 ReachWithin (P11.1, P11.3) at this commit: for every nonterminals of at most 62, and 1000 symbols, and any two numbers, what is within what is within one is within it, and by whom one may begin is within it; others are let be. Conditions: the card's own, the listed variables of the library read as the tie lays them.
-/
import Derived.Test.YtcblkmlcbedomaaGreatDoorReachWithinLift
import Derived.Test.YtcblkmlcbedomaaGreatDoorReachWithinClo
import Derived.Test.YtcblkmlcbedomaaGreatDoorRows
import Derived.Test.YtcblkmlcbedomaaGreatDoorTie
import Derived.Test.YtcblkmlcbedomaaGreatDoorCards
import Derived.WalkKit
import Derived.ProofKit
import Derived.LaidMore
import Derived.OpenShut
import Derived.ShutString
import Derived.ChangeOld
import Derived.Below
import Derived.Stop.Joined
import Derived.SevenTiedAt
import Derived.ChangeMaps5
set_option linter.unusedVariables false
set_option linter.unusedSimpArgs false
set_option maxRecDepth 20000
set_option maxHeartbeats 16000000
namespace Go.Proofs.YtcblkmlcbedomaaGreatDoor.reachWithin
open Go.ChangeShapes Go.WideShapes Go.ChangeAt Go.RowKit
theorem ov_n:Tryz.pinned.checked.prog.funcNamed Rows.reachWithinRow.func=some 10:=by kernel_rfl
theorem ov_i:Tryz.f10.isInstance Tryz.pinned.checked.prog Rows.reachWithinRow.origin Rows.reachWithinRow.targs:=of_decide_eq_true (by kernel_rfl)
theorem ov_w:Tryz.f10.isWrapper Tryz.pinned.checked.prog Rows.reachWithinRow.wrapper Rows.reachWithinRow.mainSum:=by unfold Func.isWrapper;first|(rw[if_pos (by decide+kernel)];kernel_rfl)|(rw[if_neg (by decide+kernel)];exact⟨rfl,rfl⟩)
theorem over:Rows.ReachWithinSaid:=
 OpenClaim.holds_of_wide 10 Tryz.f10 rfl rfl rfl rfl rfl rfl rfl ⟨rfl,rfl,rfl,rfl,rfl⟩ rfl rfl rfl rfl rfl ov_n Tryz.func10 ov_c ov_i ov_w
  (fun os started H enc _=>lifted os started H enc)
theorem proved:Rows.ReachWithinCardSaid:=
 Claim7.holds_tied_plain_at .later [] [.data,.pinned] true (true, "4810764afebd47b6e1d6ac1a4cee2dcb186e9c7bceabe8b9693a0a3eba8c9da8") true
  over (fun _ h=>by cases h) (by kernel_rfl) (fun _ h=>by cases h) reachWithin_row_tie rfl ⟨rfl,rfl⟩ (by kernel_rfl) rfl
  (fun f fn hf hfn=>by
   obtain rfl:f=10:=Option.some.inj ((show Tryz.prog.funcNamed "exegete/exegetelaw11.ReachWithin" =some 10 by kernel_rfl).symm.trans hf)|>.symm
   obtain rfl:fn=Tryz.f10:=(Option.some.inj (Tryz.func10.symm.trans hfn)).symm
   exact⟨by kernel_rfl,fun j t ht=>by
    rw[Tryz.params10]at ht
    have hm:t∈[25,3,3]:=by simpa using Array.mem_of_getElem? ht
    have hall:([25,3,3].all fun u=> !Tryz.prog.wantsStandIn u)=true:=by kernel_rfl
    exact(show Tryz.prog.wantsStandIn t=false by simpa using List.all_eq_true.1 hall t hm)⟩)
  (by kernel_rfl)
end Go.Proofs.YtcblkmlcbedomaaGreatDoor.reachWithin
namespace Go.Proofs.YtcblkmlcbedomaaGreatDoor
theorem reachWithin_holds:Rows.ReachWithinCardSaid:=reachWithin.proved
end Go.Proofs.YtcblkmlcbedomaaGreatDoor

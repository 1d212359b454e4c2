/-
 ReachTells (P11.1, P11.2) at this commit: for every nonterminals of at most 62, and 1000 symbols, and any number, those are within it, and those have a text, that the document says; the least ones that are lost, and vain, are its. Conditions: the card's own, the listed variables of the library read as the tie lays them.
-/
import Derived.Test.YtcblkmlcbedomaaGreatDoorReachTellsLift
import Derived.Test.YtcblkmlcbedomaaGreatDoorReachTellsClo
import Derived.Test.YtcblkmlcbedomaaGreatDoorRows
import Derived.Test.YtcblkmlcbedomaaGreatDoorTie
import Derived.Test.YtcblkmlcbedomaaGreatDoorCards
import Derived.WalkKit
import Derived.ProofKit
import Derived.LaidMore
import Derived.OpenShut
import Derived.ShutString
import Derived.ChangeOld
import Derived.Below
import Derived.Stop.Joined
import Derived.SevenTiedAt
import Derived.ChangeMaps5
set_option linter.unusedVariables false
set_option linter.unusedSimpArgs false
set_option maxRecDepth 20000
set_option maxHeartbeats 16000000
namespace Go.Proofs.YtcblkmlcbedomaaGreatDoor.reachTells
open Go.ChangeShapes Go.WideShapes Go.ChangeAt Go.RowKit
theorem ov_n:Tryz.pinned.checked.prog.funcNamed Rows.reachTellsRow.func=some 9:=by kernel_rfl
theorem ov_i:Tryz.f9.isInstance Tryz.pinned.checked.prog Rows.reachTellsRow.origin Rows.reachTellsRow.targs:=of_decide_eq_true (by kernel_rfl)
theorem ov_w:Tryz.f9.isWrapper Tryz.pinned.checked.prog Rows.reachTellsRow.wrapper Rows.reachTellsRow.mainSum:=by unfold Func.isWrapper;first|(rw[if_pos (by decide+kernel)];kernel_rfl)|(rw[if_neg (by decide+kernel)];exact⟨rfl,rfl⟩)
theorem over:Rows.ReachTellsSaid:=
 OpenClaim.holds_of_wide 9 Tryz.f9 rfl rfl rfl rfl rfl rfl rfl ⟨rfl,rfl,rfl,rfl,rfl⟩ rfl rfl rfl rfl rfl ov_n Tryz.func9 ov_c ov_i ov_w
  (fun os started H enc _=>lifted os started H enc)
theorem proved:Rows.ReachTellsCardSaid:=
 Claim7.holds_tied_plain_at .later [] [.data,.pinned] true (true, "4810764afebd47b6e1d6ac1a4cee2dcb186e9c7bceabe8b9693a0a3eba8c9da8") true
  over (fun _ h=>by cases h) (by kernel_rfl) (fun _ h=>by cases h) reachTells_row_tie rfl ⟨rfl,rfl⟩ (by kernel_rfl) rfl
  (fun f fn hf hfn=>by
   obtain rfl:f=9:=Option.some.inj ((show Tryz.prog.funcNamed "exegete/exegetelaw11.ReachTells" =some 9 by kernel_rfl).symm.trans hf)|>.symm
   obtain rfl:fn=Tryz.f9:=(Option.some.inj (Tryz.func9.symm.trans hfn)).symm
   exact⟨by kernel_rfl,fun j t ht=>by
    rw[Tryz.params9]at ht
    have hm:t∈[25,3]:=by simpa using Array.mem_of_getElem? ht
    have hall:([25,3].all fun u=> !Tryz.prog.wantsStandIn u)=true:=by kernel_rfl
    exact(show Tryz.prog.wantsStandIn t=false by simpa using List.all_eq_true.1 hall t hm)⟩)
  (by kernel_rfl)
end Go.Proofs.YtcblkmlcbedomaaGreatDoor.reachTells
namespace Go.Proofs.YtcblkmlcbedomaaGreatDoor
theorem reachTells_holds:Rows.ReachTellsCardSaid:=reachTells.proved
end Go.Proofs.YtcblkmlcbedomaaGreatDoor

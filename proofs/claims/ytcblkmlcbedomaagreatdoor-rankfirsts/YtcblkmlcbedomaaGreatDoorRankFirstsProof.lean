/-
 RankFirsts (P10.1) at this commit: for every two slices of at most 60 numbers each, what rank.First tells of both together, of these turned about, and of what it tells of each, together, is the same; longer slices are let be. Conditions: the card's own, the listed variables of the library read as the tie lays them.
-/
import Derived.Test.YtcblkmlcbedomaaGreatDoorRankFirstsLift
import Derived.Test.YtcblkmlcbedomaaGreatDoorRows
import Derived.Test.YtcblkmlcbedomaaGreatDoorTie
import Derived.Test.YtcblkmlcbedomaaGreatDoorCards
import Derived.WalkKit
import Derived.ProofKit
import Derived.LaidMore
import Derived.OpenShut
import Derived.ShutString
import Derived.ChangeOld
import Derived.Below
import Derived.Stop.Joined
import Derived.SevenTiedAt
import Derived.ChangeMaps5
set_option linter.unusedVariables false
set_option linter.unusedSimpArgs false
set_option maxRecDepth 20000
set_option maxHeartbeats 16000000
namespace Go.Proofs.YtcblkmlcbedomaaGreatDoor.rankFirsts
open Go.ChangeShapes Go.WideShapes Go.ChangeAt Go.RowKit
theorem over:Rows.RankFirstsSaid:=
 OpenClaim.holds_of_wide 8 Tryz.f8 rfl rfl rfl rfl rfl rfl rfl ⟨rfl,rfl,rfl,rfl,rfl⟩ rfl rfl rfl rfl rfl (by kernel_rfl) Tryz.func8 (by kernel_rfl)
  (of_decide_eq_true (by kernel_rfl)) (by unfold Func.isWrapper;first|(rw[if_pos (by decide+kernel)];kernel_rfl)|(rw[if_neg (by decide+kernel)];exact⟨rfl,rfl⟩))
  (fun os started H enc _=>lifted os started H enc)
theorem proved:Rows.RankFirstsCardSaid:=
 Claim7.holds_tied_plain_at .later [] [.data,.pinned] true (true, "4810764afebd47b6e1d6ac1a4cee2dcb186e9c7bceabe8b9693a0a3eba8c9da8") true
  over (fun _ h=>by cases h) (by kernel_rfl) (fun _ h=>by cases h) rankFirsts_row_tie rfl ⟨rfl,rfl⟩ (by kernel_rfl) rfl
  (fun f fn hf hfn=>by
   obtain rfl:f=8:=Option.some.inj ((show Tryz.prog.funcNamed "exegete/exegetelaw10.RankFirsts" =some 8 by kernel_rfl).symm.trans hf)|>.symm
   obtain rfl:fn=Tryz.f8:=(Option.some.inj (Tryz.func8.symm.trans hfn)).symm
   exact⟨by kernel_rfl,fun j t ht=>by
    rw[Tryz.params8]at ht
    have hm:t∈[26,26]:=by simpa using Array.mem_of_getElem? ht
    have hall:([26,26].all fun u=> !Tryz.prog.wantsStandIn u)=true:=by kernel_rfl
    exact(show Tryz.prog.wantsStandIn t=false by simpa using List.all_eq_true.1 hall t hm)⟩)
  (by kernel_rfl)
end Go.Proofs.YtcblkmlcbedomaaGreatDoor.rankFirsts
namespace Go.Proofs.YtcblkmlcbedomaaGreatDoor
theorem rankFirsts_holds:Rows.RankFirstsCardSaid:=rankFirsts.proved
end Go.Proofs.YtcblkmlcbedomaaGreatDoor

/- Parts of the proof that stand ahead of it (RankFirsts 1). -/
import Derived.Deep.SlicePairs
import Derived.ProofKit
import Derived.OpenShut
import Derived.Test.YtcblkmlcbedomaaGreatDoorKM5
set_option linter.unusedVariables false
set_option linter.unusedSimpArgs false
set_option maxRecDepth 20000
set_option maxHeartbeats 16000000
namespace Go.Proofs.YtcblkmlcbedomaaGreatDoor.K
open Go.ChangeShapes Go.WideShapes Go.RowKit Go.Deep
theorem cell_lt {W:World} {p:Addr} {u:Value} (h:W.cell? p=some u):p.block<W.heap.size:=by
 apply Classical.byContradiction
 intro hn
 have:W.heap[p.block]? =none:=Array.getElem?_eq_none (by omega)
 unfold World.cell? at h
 rw[this]at h
 simp at h
theorem ns_trod {H:Type} {enc:TypeId×Value→H} {W:World} {base:Nat} {spare:Nat→Bool} {held:Bool} {fuel:Nat} {a:Option Addr} {len cap:Nat} {x:DataW H×List MemPlace}
  (h:DataW.trod enc Tryz.prog W base spare held fuel 26 [.slice a len cap]=some x):∃l,Ns W (.slice a len cap) l:=by
 rcases open_ints Tryz.underlying26 Tryz.underlying3 (by kernel_rfl) h with ⟨hcs,_⟩|⟨ad,l,c,zs,hcs,_,hl,hm,hz,_,hcell,hwz⟩
 ·simp at hcs
  obtain⟨rfl,rfl,rfl⟩:=hcs
  exact⟨[],none,0,rfl,Nat.le_refl _,Nat.zero_le _,fun j x hj=>by simp at hj⟩
 ·simp at hcs
  obtain⟨rfl,rfl,rfl⟩:=hcs
  have hlz:len≤zs.length:=by rw[hz];split<;>omega
  refine⟨zs.take len,some ad,cap,by rw[List.length_take,Nat.min_eq_left hlz],by rw[List.length_take];omega,hm,fun j x hj=> ?_⟩
  have hj1:=(List.getElem?_eq_some_iff.1 hj).1
  rw[List.length_take]at hj1
  have hc:=hcell j (by omega)
  have e:zs.getD j 0=x:=by
   rw[List.getElem?_take_of_lt (by omega)]at hj
   rw[List.getD_eq_getElem?_getD,hj];rfl
  rw[e]at hc
  obtain⟨b,off,spot⟩:=ad
  have hspot:spot=none:=by simpa [Addr.add] using World.cell?_spot (hcell 0 (by omega))
  subst hspot
  rw[Addr.add_lit]at hc
  exact⟨b,off,rfl,cell_lt hc,hc⟩
end Go.Proofs.YtcblkmlcbedomaaGreatDoor.K

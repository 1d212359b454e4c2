/- Parts of the proof that stand ahead of it (ReachWithin 8). -/
import Derived.Test.YtcblkmlcbedomaaGreatDoorChecked
import Derived.Shelf.SlIterI.Sorted
import Derived.Shelf.SortM.Plain
import Derived.Shelf.SortM.SortNone
import Derived.Test.YtcblkmlcbedomaaGreatDoorTM23
import Derived.Test.YtcblkmlcbedomaaGreatDoorReachWithinM6
set_option linter.unusedVariables false
set_option linter.unusedSimpArgs false
set_option maxRecDepth 20000
set_option maxHeartbeats 16000000
namespace Go.Proofs.YtcblkmlcbedomaaGreatDoor
open Go.Shelf
def keysN_ren:Go.Shelf.Ren:=⟨fun|7=>54|10=>85|n=>n,fun|23=>80|26=>3|3=>87|28=>83|0=>0|27=>82|33=>76|4=>4|n=>n,fun|n=>n⟩
theorem keysN_lays:Go.Proofs.SlLaysZI.n7 Tryz.prog keysN_ren:=
 {
  mixed:=by kernel_rfl,
  f7:=⟨Tryz.f54.name,by decide,Tryz.func54.trans (congrArg some (by kernel_rfl))⟩,
  f10:=⟨Tryz.f85.name,by decide,Tryz.func85.trans (congrArg some (by kernel_rfl))⟩,
  t0:=Tryz.underlying0,
  a0:=Tryz.isAgg0,
  z0:=Tryz.sizeOf0,
  v0:=Tryz.zeroValue0,
  t4:=Tryz.underlying4,
  a4:=Tryz.isAgg4,
  z4:=Tryz.sizeOf4,
  v4:=Tryz.zeroValue4,
  t23:=Tryz.underlying80,
  a23:=Tryz.isAgg80,
  z23:=Tryz.sizeOf80,
  v23:=Tryz.zeroValue80,
  t26:=Tryz.underlying3,
  a26:=Tryz.isAgg3,
  z26:=Tryz.sizeOf3,
  v26:=Tryz.zeroValue3,
  t27:=Tryz.underlying82,
  a27:=Tryz.isAgg82,
  z27:=Tryz.sizeOf82,
  v27:=Tryz.zeroValue82,
  t28:=Tryz.underlying83,
  a28:=Tryz.isAgg83,
  z28:=Tryz.sizeOf83,
  v28:=Tryz.zeroValue83,
  t33:=Tryz.underlying76,
  a33:=Tryz.isAgg76,
  z33:=Tryz.sizeOf76,
  v33:=Tryz.zeroValue76
 }
def sortedN_ren:Go.Shelf.Ren:=⟨fun|6=>53|8=>83|9=>84|11=>128|13=>130|12=>129|23=>177|24=>178|14=>168|15=>169|16=>170|17=>171|18=>172|19=>173|20=>174|21=>175|22=>176|25=>201|26=>202|27=>203|28=>204|29=>205|30=>206|31=>229|n=>n,fun|26=>3|28=>83|24=>26|0=>0|3=>3|37=>173|48=>206|50=>208|4=>4|40=>200|39=>199|45=>176|5=>5|9=>9|51=>230|55=>234|57=>256|58=>238|33=>76|n=>n,fun|n=>n⟩
theorem sortedN_lays:Go.Proofs.SlLaysZI.n6 Tryz.prog sortedN_ren:=
 {
  mixed:=by kernel_rfl,
  f6:=⟨Tryz.f53.name,by decide,Tryz.func53.trans (congrArg some (by kernel_rfl))⟩,
  f8:=⟨Tryz.f83.name,by decide,Tryz.func83.trans (congrArg some (by kernel_rfl))⟩,
  f11:=⟨Tryz.f128.name,by decide,Tryz.func128.trans (congrArg some (by kernel_rfl))⟩,
  t0:=Tryz.underlying0,
  a0:=Tryz.isAgg0,
  z0:=Tryz.sizeOf0,
  v0:=Tryz.zeroValue0,
  t24:=Tryz.underlying26,
  a24:=Tryz.isAgg26,
  z24:=Tryz.sizeOf26,
  v24:=Tryz.zeroValue26,
  t26:=Tryz.underlying3,
  a26:=Tryz.isAgg3,
  z26:=Tryz.sizeOf3,
  v26:=Tryz.zeroValue3,
  t28:=Tryz.underlying83,
  a28:=Tryz.isAgg83,
  z28:=Tryz.sizeOf83,
  v28:=Tryz.zeroValue83,
  i26:=by kernel_rfl
 }
def sortN_ren:Go.Shelf.Ren:=⟨fun|5=>84|8=>130|7=>129|19=>177|20=>178|10=>168|11=>169|12=>170|13=>171|14=>172|15=>173|16=>174|17=>175|18=>176|30=>201|31=>202|32=>203|33=>204|34=>205|35=>206|40=>229|n=>n,fun|23=>26|25=>3|3=>3|32=>173|22=>26|0=>0|44=>206|46=>208|4=>4|36=>200|35=>199|41=>176|5=>5|9=>9|53=>230|57=>234|63=>256|64=>238|n=>n,fun|n=>n⟩
theorem sortN_lays:Go.Proofs.SlLaysM.n5 Tryz.prog sortN_ren:=
 {
  mixed:=by kernel_rfl,
  f5:=⟨Tryz.f84.name,by decide,Tryz.func84.trans (congrArg some (by kernel_rfl))⟩,
  f7:=⟨Tryz.f129.name,by decide,Tryz.func129.trans (congrArg some (by kernel_rfl))⟩,
  f8:=Tryz.func130.trans (congrArg some (by kernel_rfl)),
  f10:=⟨Tryz.f168.name,by decide,Tryz.func168.trans (congrArg some (by kernel_rfl))⟩,
  f11:=⟨Tryz.f169.name,by decide,Tryz.func169.trans (congrArg some (by kernel_rfl))⟩,
  f12:=⟨Tryz.f170.name,by decide,Tryz.func170.trans (congrArg some (by kernel_rfl))⟩,
  f13:=⟨Tryz.f171.name,by decide,Tryz.func171.trans (congrArg some (by kernel_rfl))⟩,
  f14:=⟨Tryz.f172.name,by decide,Tryz.func172.trans (congrArg some (by kernel_rfl))⟩,
  f15:=⟨Tryz.f173.name,by decide,Tryz.func173.trans (congrArg some (by kernel_rfl))⟩,
  f16:=⟨Tryz.f174.name,by decide,Tryz.func174.trans (congrArg some (by kernel_rfl))⟩,
  f17:=⟨Tryz.f175.name,by decide,Tryz.func175.trans (congrArg some (by kernel_rfl))⟩,
  f18:=⟨Tryz.f176.name,by decide,Tryz.func176.trans (congrArg some (by kernel_rfl))⟩,
  f19:=Tryz.func177.trans (congrArg some (by kernel_rfl)),
  f20:=Tryz.func178.trans (congrArg some (by kernel_rfl)),
  f30:=⟨Tryz.f201.name,by decide,Tryz.func201.trans (congrArg some (by kernel_rfl))⟩,
  f31:=Tryz.func202.trans (congrArg some (by kernel_rfl)),
  f32:=Tryz.func203.trans (congrArg some (by kernel_rfl)),
  f33:=⟨Tryz.f204.name,by decide,Tryz.func204.trans (congrArg some (by kernel_rfl))⟩,
  f34:=⟨Tryz.f205.name,by decide,Tryz.func205.trans (congrArg some (by kernel_rfl))⟩,
  f35:=⟨Tryz.f206.name,by decide,Tryz.func206.trans (congrArg some (by kernel_rfl))⟩,
  f40:=⟨Tryz.f229.name,by decide,Tryz.func229.trans (congrArg some (by kernel_rfl))⟩,
  t0:=Tryz.underlying0,
  a0:=Tryz.isAgg0,
  z0:=Tryz.sizeOf0,
  v0:=Tryz.zeroValue0,
  t3:=Tryz.underlying3,
  a3:=Tryz.isAgg3,
  z3:=Tryz.sizeOf3,
  v3:=Tryz.zeroValue3,
  t4:=Tryz.underlying4,
  a4:=Tryz.isAgg4,
  z4:=Tryz.sizeOf4,
  v4:=Tryz.zeroValue4,
  t5:=Tryz.underlying5,
  a5:=Tryz.isAgg5,
  z5:=Tryz.sizeOf5,
  v5:=Tryz.zeroValue5,
  t9:=Tryz.underlying9,
  a9:=Tryz.isAgg9,
  z9:=Tryz.sizeOf9,
  v9:=Tryz.zeroValue9,
  t22:=Tryz.underlying26,
  a22:=Tryz.isAgg26,
  z22:=Tryz.sizeOf26,
  v22:=Tryz.zeroValue26,
  t23:=Tryz.underlying26,
  a23:=Tryz.isAgg26,
  z23:=Tryz.sizeOf26,
  v23:=Tryz.zeroValue26,
  t25:=Tryz.underlying3,
  a25:=Tryz.isAgg3,
  z25:=Tryz.sizeOf3,
  v25:=Tryz.zeroValue3,
  t32:=Tryz.underlying173,
  a32:=Tryz.isAgg173,
  z32:=Tryz.sizeOf173,
  v32:=Tryz.zeroValue173,
  t35:=Tryz.underlying199,
  a35:=Tryz.isAgg199,
  z35:=Tryz.sizeOf199,
  v35:=Tryz.zeroValue199,
  t36:=Tryz.underlying200,
  a36:=Tryz.isAgg200,
  z36:=Tryz.sizeOf200,
  v36:=Tryz.zeroValue200,
  t41:=Tryz.underlying176,
  a41:=Tryz.isAgg176,
  z41:=Tryz.sizeOf176,
  v41:=Tryz.zeroValue176,
  t44:=Tryz.underlying206,
  a44:=Tryz.isAgg206,
  z44:=Tryz.sizeOf206,
  v44:=Tryz.zeroValue206,
  t46:=Tryz.underlying208,
  a46:=Tryz.isAgg208,
  z46:=Tryz.sizeOf208,
  v46:=Tryz.zeroValue208,
  t53:=Tryz.underlying230,
  a53:=Tryz.isAgg230,
  z53:=Tryz.sizeOf230,
  v53:=Tryz.zeroValue230,
  t57:=Tryz.underlying234,
  a57:=Tryz.isAgg234,
  z57:=Tryz.sizeOf234,
  v57:=Tryz.zeroValue234,
  t63:=Tryz.underlying256,
  a63:=Tryz.isAgg256,
  z63:=Tryz.sizeOf256,
  v63:=Tryz.zeroValue256,
  t64:=Tryz.underlying238,
  a64:=Tryz.isAgg238,
  z64:=Tryz.sizeOf238,
  v64:=Tryz.zeroValue238
 }
end Go.Proofs.YtcblkmlcbedomaaGreatDoor
set_option linter.unusedVariables false
set_option linter.unusedSimpArgs false
set_option maxRecDepth 20000
set_option maxHeartbeats 16000000
namespace Go.Proofs.YtcblkmlcbedomaaGreatDoor.Nl
open Go.RowKit Go.Shelf Go.Maps Go.Sort
theorem sortsN (m:Nat):AnyZI.SortsIn Tryz.prog sortedN_ren Fence.wide m:=
 ⟨fun blk off cap ss W hH hblk hsz=>callsIn_wide.2 (AnyM.slices_Sort_int sortN_lays blk off cap ss W hH hblk hsz),
  fun p cap W=>callsIn_wide.2 (AnyM.slices_Sort_int_none sortN_lays p cap W)⟩
theorem setD_keys {w:World} {b:Nat} {E:List Int} (h:SetV w b E):(intKeys (setD E)).Nodup∧∀x,x∈intKeys (setD E)↔x∈E:=by
 obtain⟨es,hD,hp⟩:=h.1.tidy setK
 obtain⟨es',hD',hk⟩:=h.1.keysOf
 rw[hD]at hD'
 injection hD' with e
 subst e
 have hk':∀p∈es,∃x:Int,p.1= .int .i64 x:=fun p hp'=>by
  obtain⟨v,hv⟩:=hk p hp'
  obtain⟨x,-,hx,-⟩:=Maps.keyOf_i64 Tryz.underlying3 hv
  exact⟨x,hx⟩
 rw[hD]
 constructor
 ·show(es.map fun p=>Go.intOf p.1).Nodup
  refine List.pairwise_map.2 (hp.imp_of_mem fun{p q} hp' hq' hne e=>hne ?_)
  obtain⟨a,ha⟩:=hk' p hp'
  obtain⟨c,hc⟩:=hk' q hq'
  rw[ha,hc]at e⊢
  exact congrArg _ e
 ·intro x
  have h1:=setD_has E x
  rw[hD,has_eq]at h1
  show x∈es.map (fun p=>Go.intOf p.1)↔_
  rw[List.mem_map]
  constructor
  ·rintro⟨p,hp',rfl⟩
   obtain⟨a,ha⟩:=hk' p hp'
   rw[ha]at h1⊢
   have:(es.any fun p=>p.1.sameKey (zi a))=true:=List.any_eq_true.2 ⟨p,hp',by rw[ha];simp[zi,Lit.sameKey]⟩
   simp only[Go.intOf]at h1⊢
   rw[this]at h1
   exact of_decide_eq_true h1.symm
  ·intro hx
   rw[decide_eq_true hx,List.any_eq_true]at h1
   obtain⟨p,hp',hs⟩:=h1
   obtain⟨a,ha⟩:=hk' p hp'
   rw[ha]at hs
   exact⟨p,hp',by rw[ha];simpa [zi,Lit.sameKey,Go.intOf] using hs⟩
theorem sorted_of {ss l:List Int} (h:ss.Perm l) (hn:l.Nodup):(ss.mergeSort (fun x y=>decide (x≤y))).Pairwise (· < ·)∧∀x,x∈ss.mergeSort (fun x y=>decide (x≤y))↔x∈l:=by
 have hp:=(List.mergeSort_perm ss (fun x y=>decide (x≤y))).trans h
 have tr:∀a b c:Int,decide (a≤b)=true→decide (b≤c)=true→decide (a≤c)=true:=fun a b c h1 h2=>by simp only[decide_eq_true_eq]at*;omega
 have to:∀a b:Int,(decide (a≤b)||decide (b≤a))=true:=fun a b=>by simp only[Bool.or_eq_true,decide_eq_true_eq];omega
 have hs:=List.pairwise_mergeSort tr to ss
 have hnd:(ss.mergeSort (fun x y=>decide (x≤y))).Nodup:=hp.nodup_iff.2 hn
 refine⟨?_,fun x=>hp.mem_iff⟩
 have:=List.Pairwise.and hs hnd
 exact this.imp fun{a b} hab=>by
  have h1:=hab.1
  have h2:=hab.2
  simp only[decide_eq_true_eq]at h1
  omega
theorem keysN_l (b:Nat) (W:World):Calls Tryz.prog 54 #[.map (some b)] W fun e w'=>e= .returned (ve W.heap.size)∧w'=W.alloc (boxS b):=
 (callsIn_wide (n:=6)).1 (AnyZI.keys_in keysN_lays Fence.wide 6 trivial rfl (some b) W)
theorem sortedN_l (b k:Nat) (E:List Int) (W:World) (h:SetV W b E) (hk:W.cell? ⟨k,0,none⟩=some (.map (some b))) (hE:E.length≤100000):
  Calls Tryz.prog 53 #[ve k] W fun e w'=>∃v L,e= .returned v∧List.Pairwise (· < ·) L∧(∀x,x∈L↔x∈E)∧InV w' W.heap.size v L∧Below W.heap.size W w':=by
 have hsz:Maps.size (setD E)≤E.length:=h.1.size_le
 have hseq:SeqGives Fence.wide 2 Tryz.prog 85 #[.pointer (some ⟨k,0,none⟩)] encZ (fun ss=>ss.Perm (intKeys (setD E))) (Maps.size (setD E)) W:=
  AnyZI.keys_gives (ρ:=keysN_ren) {keysN_lays with} Fence.wide _ trivial rfl (by omega) k b E.length (setD E) W (zJ hk) hk h.1
 have cS:=AnyZI.sorted_in sortedN_lays Fence.wide 5 trivial trivial trivial trivial rfl (by omega) (sortsN _) (enters_of Tryz.func84 (by kernel_rfl) rfl) 85 #[.pointer (some ⟨k,0,none⟩)] trivial (enters_of Tryz.func85 (by kernel_rfl) rfl) _ _ (by unfold maxLen;omega) (by omega) _ hseq
 obtain⟨hnd,hmem⟩:=setD_keys h
 refine((callsIn_wide (n:=5)).1 cS).mono ?_
 rintro e w' ⟨v,ss,rfl,hS,hrow,-,hb⟩
 obtain⟨h1,h2⟩:=sorted_of hS hnd
 refine⟨v,_,rfl,h1,fun x=>(h2 x).trans (hmem x),?_,hb⟩
 unfold InV
 rw[(List.mergeSort_perm ss _).length_eq]
 exact hrow
end Go.Proofs.YtcblkmlcbedomaaGreatDoor.Nl

/- Parts of the proof that stand ahead of it (K 10). -/
import Derived.Test.YtcblkmlcbedomaaGreatDoorTM23
import Derived.Test.YtcblkmlcbedomaaGreatDoorKM8
import Derived.Test.YtcblkmlcbedomaaGreatDoorKM9
set_option linter.unusedVariables false
set_option linter.unusedSimpArgs false
set_option maxRecDepth 20000
set_option maxHeartbeats 16000000
namespace Go.Proofs.YtcblkmlcbedomaaGreatDoor.Nl
open Go.RowKit Go.Shelf Go.Maps Go.Sort
theorem sortsN (m:Nat):AnyZI.SortsIn Tryz.prog sortedN_ren Fence.wide m:=
 ⟨fun blk off cap ss W hH hblk hsz=>callsIn_wide.2 (AnyM.slices_Sort_int sortN_lays blk off cap ss W hH hblk hsz),
  fun p cap W=>callsIn_wide.2 (AnyM.slices_Sort_int_none sortN_lays p cap W)⟩
theorem setD_keys {w:World} {b:Nat} {E:List Int} (h:SetV w b E):(intKeys (setD E)).Nodup∧∀x,x∈intKeys (setD E)↔x∈E:=by
 obtain⟨es,hD,hp⟩:=h.1.tidy setK
 obtain⟨es',hD',hk⟩:=h.1.keysOf
 rw[hD]at hD'
 injection hD' with e
 subst e
 have hk':∀p∈es,∃x:Int,p.1= .int .i64 x:=fun p hp'=>by
  obtain⟨v,hv⟩:=hk p hp'
  obtain⟨x,-,hx,-⟩:=Maps.keyOf_i64 Tryz.underlying3 hv
  exact⟨x,hx⟩
 rw[hD]
 constructor
 ·show(es.map fun p=>Go.intOf p.1).Nodup
  refine List.pairwise_map.2 (hp.imp_of_mem fun{p q} hp' hq' hne e=>hne ?_)
  obtain⟨a,ha⟩:=hk' p hp'
  obtain⟨c,hc⟩:=hk' q hq'
  rw[ha,hc]at e⊢
  exact congrArg _ e
 ·intro x
  have h1:=setD_has E x
  rw[hD,has_eq]at h1
  show x∈es.map (fun p=>Go.intOf p.1)↔_
  rw[List.mem_map]
  constructor
  ·rintro⟨p,hp',rfl⟩
   obtain⟨a,ha⟩:=hk' p hp'
   rw[ha]at h1⊢
   have:(es.any fun p=>p.1.sameKey (zi a))=true:=List.any_eq_true.2 ⟨p,hp',by rw[ha];simp[zi,Lit.sameKey]⟩
   simp only[Go.intOf]at h1⊢
   rw[this]at h1
   exact of_decide_eq_true h1.symm
  ·intro hx
   rw[decide_eq_true hx,List.any_eq_true]at h1
   obtain⟨p,hp',hs⟩:=h1
   obtain⟨a,ha⟩:=hk' p hp'
   rw[ha]at hs
   exact⟨p,hp',by rw[ha];simpa [zi,Lit.sameKey,Go.intOf] using hs⟩
theorem sorted_of {ss l:List Int} (h:ss.Perm l) (hn:l.Nodup):(ss.mergeSort (fun x y=>decide (x≤y))).Pairwise (· < ·)∧∀x,x∈ss.mergeSort (fun x y=>decide (x≤y))↔x∈l:=by
 have hp:=(List.mergeSort_perm ss (fun x y=>decide (x≤y))).trans h
 have tr:∀a b c:Int,decide (a≤b)=true→decide (b≤c)=true→decide (a≤c)=true:=fun a b c h1 h2=>by simp only[decide_eq_true_eq]at*;omega
 have to:∀a b:Int,(decide (a≤b)||decide (b≤a))=true:=fun a b=>by simp only[Bool.or_eq_true,decide_eq_true_eq];omega
 have hs:=List.pairwise_mergeSort tr to ss
 have hnd:(ss.mergeSort (fun x y=>decide (x≤y))).Nodup:=hp.nodup_iff.2 hn
 refine⟨?_,fun x=>hp.mem_iff⟩
 have:=List.Pairwise.and hs hnd
 exact this.imp fun{a b} hab=>by
  have h1:=hab.1
  have h2:=hab.2
  simp only[decide_eq_true_eq]at h1
  omega
theorem keysN_l (b:Nat) (W:World):Calls Tryz.prog 54 #[.map (some b)] W fun e w'=>e= .returned (ve W.heap.size)∧w'=W.alloc (boxS b):=
 (callsIn_wide (n:=6)).1 (AnyZI.keys_in keysN_lays Fence.wide 6 trivial rfl (some b) W)
theorem sortedN_l (b k:Nat) (E:List Int) (W:World) (h:SetV W b E) (hk:W.cell? ⟨k,0,none⟩=some (.map (some b))) (hE:E.length≤100000):
  Calls Tryz.prog 53 #[ve k] W fun e w'=>∃v L,e= .returned v∧List.Pairwise (· < ·) L∧(∀x,x∈L↔x∈E)∧InV w' W.heap.size v L∧Below W.heap.size W w':=by
 have hsz:Maps.size (setD E)≤E.length:=h.1.size_le
 have hseq:SeqGives Fence.wide 2 Tryz.prog 85 #[.pointer (some ⟨k,0,none⟩)] encZ (fun ss=>ss.Perm (intKeys (setD E))) (Maps.size (setD E)) W:=
  AnyZI.keys_gives (ρ:=keysN_ren) {keysN_lays with} Fence.wide _ trivial rfl (by omega) k b E.length (setD E) W (zJ hk) hk h.1
 have cS:=AnyZI.sorted_in sortedN_lays Fence.wide 5 trivial trivial trivial trivial rfl (by omega) (sortsN _) (enters_of Tryz.func84 (by kernel_rfl) rfl) 85 #[.pointer (some ⟨k,0,none⟩)] trivial (enters_of Tryz.func85 (by kernel_rfl) rfl) _ _ (by unfold maxLen;omega) (by omega) _ hseq
 obtain⟨hnd,hmem⟩:=setD_keys h
 refine((callsIn_wide (n:=5)).1 cS).mono ?_
 rintro e w' ⟨v,ss,rfl,hS,hrow,-,hb⟩
 obtain⟨h1,h2⟩:=sorted_of hS hnd
 refine⟨v,_,rfl,h1,fun x=>(h2 x).trans (hmem x),?_,hb⟩
 unfold InV
 rw[(List.mergeSort_perm ss _).length_eq]
 exact hrow
end Go.Proofs.YtcblkmlcbedomaaGreatDoor.Nl

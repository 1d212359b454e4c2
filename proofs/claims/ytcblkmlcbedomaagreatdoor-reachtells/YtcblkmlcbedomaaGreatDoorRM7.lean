/- Parts of the proof that stand ahead of it (R 7). -/
import Derived.Test.YtcblkmlcbedomaaGreatDoorTM15
import Derived.Test.YtcblkmlcbedomaaGreatDoorRM6
import Derived.Test.YtcblkmlcbedomaaGreatDoorRM2
import Derived.Test.YtcblkmlcbedomaaGreatDoorRM5
set_option linter.unusedVariables false
set_option linter.unusedSimpArgs false
set_option maxRecDepth 20000
set_option maxHeartbeats 16000000
namespace Go.Proofs.YtcblkmlcbedomaaGreatDoor.Nl
open Go.RowKit Go.Shelf
abbrev Bo (b:Nat) (w w':World):Prop:=w.grownBy w' (some b)
end Go.Proofs.YtcblkmlcbedomaaGreatDoor.Nl
namespace Go.Proofs.YtcblkmlcbedomaaGreatDoor.Nl
open Go.RowKit Go.Shelf Go.Proofs.YtcblkmlcbedomaaGreatDoor.F
theorem Xj {w w1 w2:World} (h:Below w.heap.size w w1) (k:Below w1.heap.size w1 w2):Below w.heap.size w w2:=h.trans (k.mono h.size)
end Go.Proofs.YtcblkmlcbedomaaGreatDoor.Nl
namespace Go.Proofs.YtcblkmlcbedomaaGreatDoor.Rc
open Go.RowKit Go.Maps Go.Proofs.YtcblkmlcbedomaaGreatDoor.F Go.Proofs.YtcblkmlcbedomaaGreatDoor.Nl
theorem tight_map {H:Type} {w:World} {P:Program} {k:TypeId} {R:Value→Option (DataW H×List MemPlace)} {b n:Nat} {D:DataW H} (h:w.ownsMap P k R b n D):w.ownsMap P k R b (Maps.size D) D:=by
 obtain⟨es,clock,hb,F,hs,rfl⟩:=h
 exact⟨es,clock,hb,F,by simp[Maps.size,length_sorted],rfl⟩
def upT (T:Int→Bool) (l:List Int):Int→Bool:=fun x=>T x||decide (x∈l)
def dlT (T:Int→Bool) (y:Int):Int→Bool:=fun x=>T x&&decide (x≠y)
structure TdD (w:World) (b many:Nat) (T:Int→Bool) (D:DataW Unit):Prop where
 own:w.ownsMap Tryz.prog 3 (unitElem (H:=Unit)) b (Maps.size D) D
 has:∀x,yQ x→Maps.has D (zi x)=T x
 rng:∀x,T x=true→∃m:Nat,x=(m:Int)∧m<many
 cnt:Maps.size D+Xw many (fun i=>T (i:Int))=many
def TdV (w:World) (b many:Nat) (T:Int→Bool):Prop:=∃D,TdD w b many T D
theorem TdV.map {w:World} {b many:Nat} {T:Int→Bool} (h:TdV w b many T):∃es clock,w.heap[b]? =some (.map es clock):=by
 obtain⟨D,⟨es,clock,hb,-⟩,-⟩:=h
 exact⟨es,clock,hb⟩
theorem TdV.lt {w:World} {b many:Nat} {T:Int→Bool} (h:TdV w b many T):b<w.heap.size:=by
 obtain⟨es,clock,hb⟩:=h.map
 exact(Array.getElem?_eq_some_iff.1 hb).1
theorem TdV.keep {w X:World} {b many:Nat} {T:Int→Bool} (h:TdV w b many T) (e:X.heap[b]? =w.heap[b]?):TdV X b many T:=by
 obtain⟨D,⟨es,clock,hb,F,hs,hD⟩,h2,h3,h4⟩:=h
 exact⟨D,⟨es,clock,e.trans hb,F,hs,hD⟩,h2,h3,h4⟩
theorem TdV.ne {w:World} {b many:Nat} {T:Int→Bool} (h:TdV w b many T) {p:Addr} {u:Value} (hc:w.cell? p=some u):p.block≠b:=by
 obtain⟨es,clock,hb⟩:=h.map
 intro e
 unfold World.cell? at hc
 rw[e,hb]at hc
 cases hc
theorem bo_cell {w w':World} {b many:Nat} {T:Int→Bool} (h:TdV w b many T) (k:Bo b w w') {p:Addr} {u:Value} (hc:w.cell? p=some u):w'.cell? p=some u:=by
 have hlt:p.block<w.heap.size:=by
  apply Classical.byContradiction
  intro hn
  have:w.heap[p.block]? =none:=Array.getElem?_eq_none (by omega)
  unfold World.cell? at hc
  rw[this]at hc
  simp at hc
 exact(World.cell?_of_block (k.block _ hlt (fun e=>h.ne hc (by injection e)))).trans hc
theorem ns_bo {w w':World} {b many:Nat} {T:Int→Bool} (h:TdV w b many T) (k:Bo b w w') {v:Value} {l:List Int} (hv:K.Ns w v l):K.Ns w' v l:=by
 obtain⟨a,c,e,h1,h2,h3⟩:=hv
 refine⟨a,c,e,h1,h2,fun j x hj=> ?_⟩
 obtain⟨g,off,ea,hg,hc⟩:=h3 j x hj
 exact⟨g,off,ea,Nat.lt_of_lt_of_le hg k.size,bo_cell h k hc⟩
theorem fits_nat {m n:Nat} (h:m<n) (hn:n≤1000000):yQ (m:Int):=by unfold yQ;omega
theorem td_zero (w:World) (many:Nat):TdV (w.alloc (.map #[] 0)) w.heap.size many (fun _=>false):=by
 refine⟨.map [],World.ownsMap_made w _ _ _,fun x _=>rfl,fun x h=>(by cases h),?_⟩
 have:∀n,Xw n (fun _=>false)=n:=by
  intro n
  induction n with
  |zero=>rfl
  |succ n ih=>unfold Xw;rw[ih];rfl
 rw[this];simp[Maps.size]
theorem upT_one (T:Int→Bool) (l:List Int) (y:Int):upT T (l++[y])=fun x=>upT T l x||decide (x=y):=by
 funext x;unfold upT;rw[Bool.or_assoc];congr 1;rw[Bool.eq_iff_iff];simp
theorem td_put {w w1:World} {b many n y:Nat} {T:Int→Bool} {D:DataW Unit} (h:TdD w b many T D) (hy:y<many) (hm:many≤1000000) (h1:w1.ownsMap Tryz.prog 3 (unitElem (H:=Unit)) b n (D.put (zi (y:Int)) (.agg []))):TdV w1 b many (fun x=>T x||decide (x=(y:Int))):=by
 have hk:WideAt.IsKeyLit (zi (y:Int)):=⟨⟩
 have hT:=h.has (y:Int) (fits_nat hy hm)
 have htd:=h.own.tidy setK
 have hM:=h.own.isMap
 refine⟨_,tight_map h1,fun x hx=> ?_,fun x hx=> ?_,?_⟩
 ·by_cases e:x=(y:Int)
  ·subst e;rw[has_put_same hM hk];simp
  ·have ne:zi x≠zi (y:Int):=fun c=>e (by unfold zi at c;injection c)
   rw[has_put_other ne,h.has x hx];simp[e]
 ·rcases (by simpa using hx:T x=true∨x=(y:Int))with a|a
  ·exact h.rng x a
  ·exact⟨y,a,hy⟩
 ·rw[size_put htd,hT]
  have hc:=h.cnt
  cases hTy:T (y:Int)with
  |true=>
   rw[if_pos rfl,cntF_congr (g:=fun i=>T (i:Int)) many (fun i hi=> ?_)]
   ·exact hc
   ·by_cases e:i=y
    ·subst e;simp[hTy]
    ·have:¬((i:Int)=(y:Int)):=by omega
     simp[this]
  |false=>
   rw[if_neg (by simp)]
   have:=XW (f:=fun i=>T (i:Int)) (g:=fun i=>T (i:Int)||decide ((i:Int)=(y:Int))) (m:=y) hTy (by simp) (fun i hi=>by simp[show¬((i:Int)=(y:Int)) from fun c=>hi (by omega)]) many hy
   omega
theorem td_del {w w1:World} {b many n y:Nat} {T:Int→Bool} {D:DataW Unit} (h:TdD w b many T D) (hy:y<many) (hm:many≤1000000) (hTy:T (y:Int)=true) (h1:w1.ownsMap Tryz.prog 3 (unitElem (H:=Unit)) b n (D.del (zi (y:Int)))):TdV w1 b many (dlT T (y:Int)):=by
 have hk:WideAt.IsKeyLit (zi (y:Int)):=⟨⟩
 have hT:=h.has (y:Int) (fits_nat hy hm)
 have htd:=h.own.tidy setK
 refine⟨_,tight_map h1,fun x hx=> ?_,fun x hx=> ?_,?_⟩
 ·unfold dlT
  by_cases e:x=(y:Int)
  ·subst e;rw[has_del_same];simp
  ·have ne:zi x≠zi (y:Int):=fun c=>e (by unfold zi at c;injection c)
   rw[has_del_other ne,h.has x hx];simp[e]
 ·unfold dlT at hx
  exact h.rng x (by simp at hx;exact hx.1)
 ·have h2:=size_del (k:=zi (y:Int)) htd
  rw[hT,hTy,if_pos rfl]at h2
  have hc:=h.cnt
  have:=XW (f:=fun i=>dlT T (y:Int) (i:Int)) (g:=fun i=>T (i:Int)) (m:=y) (by unfold dlT;simp) hTy (fun i hi=>by
   unfold dlT
   have:¬((i:Int)=(y:Int)):=by omega
   simp[this]) many hy
  omega
theorem putS_l (cb mb many:Nat) (T:Int→Bool) (v:Value) (l:List Int) (w:World) (hc:w.cell? ⟨cb,0,none⟩=some (.map (some mb))) (hT:TdV w mb many T) (hv:K.Ns w v l) (hl:l.length≤1000000) (hr:∀y∈l,∃m:Nat,y=(m:Int)∧m<many) (hm:many≤1000000):
  Calls Tryz.prog 131 #[v,.pointer (some ⟨cb,0,none⟩)] w fun e w'=>e= .returned (.tuple #[])∧TdV w' mb many (upT T l)∧Bo mb w w':=by
 obtain⟨a,c,rfl,hc1,hc2,-⟩:=id hv
 unfold maxLen at hc2
 have HV:=zk hv
 have HR:=zk hr
 have HT:=zk hT
 have HC:=zk hc
 have T0:Hid (TdV w mb many (upT T (l.take 0))):=by
  have:upT T (l.take 0)=T:=by funext x;unfold upT;simp
  rw[this];exact hT
 have B0:Hid (Bo mb w w):=World.grownBy.refl w _
 clear hv hr hT hc
 generalize hn:l.length=n at*
 have HN:=zk hn
 clear hn
 go_enter Tryz.func131,Tryz.ntmps131
 go_wp2_with fail
 go_loopw [7] (fun i wr=>∃k:Nat,k≤n∧i= .int .i64 (k:Int)∧Hid (TdV wr mb many (upT T (l.take k)))∧Hid (Bo mb w wr)) (fun i _=>n-(intOf i).toNat)
 case atStart=>exact⟨0,Nat.zero_le _,rfl,T0,B0⟩
 case round=>
  clear T0 B0
  obtain⟨k,hk,rfl,hI,hB⟩:=hrel
  by_cases hlt:k<n
  ·obtain⟨x,hx⟩:∃x,l[k]? =some x:=⟨l[k]'(by have:=zq HN;omega),List.getElem?_eq_getElem _⟩
   obtain⟨y,rfl,hy⟩:=zq HR x (List.mem_of_getElem? hx)
   obtain⟨a',c',e',-,-,h3⟩:=ns_bo (zq HT) (zq hB) (zq HV)
   injection e' with e1 e2 e3
   subst e1;subst e3
   obtain⟨g,off,rfl,hg,q⟩:=h3 k _ hx
   have hc:=bo_cell (zq HT) (zq hB) (zq HC)
   obtain⟨D,hD⟩:=zq hI
   have HO:=hD.own
   have hsz:Maps.size D<maxLen:=by have:=hD.cnt;unfold maxLen;omega
   have hkey:=keyOf_int_mk Tryz.underlying3 (wf_fits (fits_nat hy hm))
   have HD:=zk hD
   have HX:=zk hx
   clear hD h3 hx e2
   go_wp2_with (at_mapUpdate;refine wpList_mapUpdate_own _ rfl _ _ _ 79 rfl 3 87 setK Tryz.underlying79 _ mb (Maps.size D) _ rfl HO hsz _ _ _ rfl rfl hkey (.agg []) [] unitElem_mk ?_;intro w1 hown1 hgrow1)
   have T1:Hid (TdV w1 mb many (upT T (l.take (k+1)))):=by
    rw[List.take_succ_eq_append_getElem (by have:=zq HN;omega),upT_one,(List.getElem?_eq_some_iff.1 (zq HX)).2]
    exact td_put (zq HD) hy hm hown1
   have B1:Hid (Bo mb w w1):=World.grownBy.trans (zq hB) hgrow1
   clear hown1 hgrow1 HO
   go_wp2_with fail
   go_roundw
   case rel=>first|exact⟨k+1,by omega,by simp,T1,B1⟩|((repeat apply Exists.intro);refine⟨⟨k+1,by omega,?_,T1,B1⟩,rfl⟩;simp)
   case measure=>simp[intOf];omega
  ·obtain rfl:k=n:=by omega
   go_wp2_with fail
   go_end0
   refine⟨rfl,?_,zq hB⟩
   have:=zq hI
   rw[←zq HN,List.take_length]at this
   exact this
theorem nextS_l (kb cb mb many:Nat) (T:Int→Bool) (w:World) (hk:w.cell? ⟨kb,0,none⟩=some (.int .i64 (many:Int))) (hc:w.cell? ⟨cb,0,none⟩=some (.map (some mb))) (hT:TdV w mb many T) (hm:many≤1000000):
  Calls Tryz.prog 132 #[.pointer (some ⟨kb,0,none⟩),.pointer (some ⟨cb,0,none⟩)] w fun e w'=>Bo mb w w'∧((∃m:Nat,m<many∧T (m:Int)=true∧e= .returned (.tuple #[.int .i64 (m:Int),.bool true])∧TdV w' mb many (dlT T (m:Int)))∨
   (e= .returned (.tuple #[.int .i64 0,.bool false])∧(∀m:Nat,m<many→T (m:Int)=false)∧TdV w' mb many T)):=by
 have hz:∀W,(zeroValue 87).run Tryz.prog W= .ok (.agg #[]) W:=fun W=>by kernel_rfl
 have HT:=zk hT
 have HC:=zk hc
 have B0:Hid (Bo mb w w):=World.grownBy.refl w _
 clear hT hc
 go_enter Tryz.func132,Tryz.ntmps132
 go_wp2_with fail
 go_loopw [8] (fun i wr=>∃k:Nat,k≤many∧i= .int .i64 (k:Int)∧Hid (∀j:Nat,j<k→T (j:Int)=false)∧Hid (TdV wr mb many T)∧Hid (Bo mb w wr)) (fun i _=>many-(intOf i).toNat)
 case atStart=>exact⟨0,Nat.zero_le _,rfl,fun j hj=>absurd hj (Nat.not_lt_zero _),HT,B0⟩
 case round=>
  clear B0
  obtain⟨k,hk,rfl,hA,hI,hB⟩:=hrel
  by_cases hlt:k<many
  ·have hc:=bo_cell (zq HT) (zq hB) (zq HC)
   obtain⟨D,hD⟩:=zq hI
   have HO:=hD.own
   have hkey:=keyOf_int_mk Tryz.underlying3 (wf_fits (fits_nat hlt hm))
   have hhas:Maps.has D (Lit.int .i64 (k:Int))=T (k:Int):=hD.has _ (fits_nat hlt hm)
   have hmb:=(zq hI).lt
   have hcb:cb<wr.heap.size:=zJ hc
   have hc2:(wr.alloc (.cells #[] 87)).cell? ⟨cb,0,none⟩=some (.map (some mb)):=(World.cell?_of_block (heap_alloc_old _ _ hcb)).trans hc
   have HD:=zk hD
   cases hb:T (k:Int)with
   |true=>
    rw[hb]at hhas
    have HB:=zk hb
    clear hD hb
    go_wp2_with (first|(at_lookup;refine wpList_lookup_own_unit _ rfl _ _ 79 rfl 3 87 setK Tryz.underlying79 (hz _) mb _ D rfl HO _ _ rfl hkey ?_)|(at_delete;refine wpList_delete_own _ rfl _ _ 79 3 rfl 87 setK Tryz.underlying79 _ mb _ D rfl (World.ownsMap.alloc HO _) _ _ rfl hkey ?_;intro w1 hown1 hturn1))
    go_ret2
    exact⟨World.grownBy.trans (World.grownBy.trans (zq hB) (World.grownBy_alloc _ _ _)) hturn1.grown,.inl ⟨k,hlt,zq HB,rfl,td_del (zq HD) hlt hm (zq HB) hown1⟩⟩
   |false=>
    rw[hb]at hhas
    have HB:=zk hb
    clear hD hb
    go_wp2_with (first|(at_lookup;refine wpList_lookup_own_unit _ rfl _ _ 79 rfl 3 87 setK Tryz.underlying79 (hz _) mb _ D rfl HO _ _ rfl hkey ?_))
    have A1:Hid (∀j:Nat,j<k+1→T (j:Int)=false):=fun j hj=>by
     rcases Nat.lt_succ_iff_lt_or_eq.1 hj with h|h
     ·exact zq hA j h
     ·subst h;exact zq HB
    have T1:Hid (TdV (wr.alloc (.cells #[] 87)) mb many T):=(zq hI).keep (heap_alloc_old _ _ hmb)
    have B1:Hid (Bo mb w (wr.alloc (.cells #[] 87))):=World.grownBy.trans (zq hB) (World.grownBy_alloc _ _ _)
    go_roundw
    case rel=>first|exact⟨k+1,by omega,by simp,A1,T1,B1⟩|((repeat apply Exists.intro);refine⟨⟨k+1,by omega,?_,A1,T1,B1⟩,rfl⟩;simp)
    case measure=>simp[intOf];omega
  ·obtain rfl:k=many:=by omega
   go_wp2_with fail
   go_ret2
   exact⟨zq hB,.inr ⟨rfl,zq hA,zq hI⟩⟩
end Go.Proofs.YtcblkmlcbedomaaGreatDoor.Rc

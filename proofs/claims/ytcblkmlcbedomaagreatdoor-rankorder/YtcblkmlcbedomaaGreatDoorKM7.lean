/- Parts of the proof that stand ahead of it (K 7). -/
import Derived.Maps.OwnIn
import Derived.Test.YtcblkmlcbedomaaGreatDoorKM3
import Derived.Test.YtcblkmlcbedomaaGreatDoorTM9
set_option linter.unusedVariables false
set_option linter.unusedSimpArgs false
set_option maxRecDepth 20000
set_option maxHeartbeats 16000000
namespace Go.Proofs.YtcblkmlcbedomaaGreatDoor.Nl
open Go.RowKit Go.Maps
def zi (x:Int):Lit:= .int .i64 x
def setD (E:List Int):DataW Unit:=Maps.setOf (.agg []) (E.map zi)
def SetV (w:World) (b:Nat) (E:List Int):Prop:=w.ownsMap Tryz.prog 3 (unitElem (H:=Unit)) b E.length (setD E)∧∀x∈E,yQ x
theorem wf_fits {x:Int} (h:yQ x):(Lit.int .i64 x).wf=true:=by
 unfold yQ at h
 simp[Lit.wf,IntKind.min,IntKind.max,IntKind.bits,IntKind.signed]
 omega
theorem setD_has (E:List Int) (x:Int):Maps.has (setD E) (zi x)=decide (x∈E):=by
 unfold setD
 rw[has_setOf _ _ _ (fun k hk=>by obtain⟨y,-,rfl⟩:=List.mem_map.1 hk;exact⟨⟩)]
 rw[Bool.eq_iff_iff]
 simp only[List.any_map,List.any_eq_true,decide_eq_true_eq]
 constructor
 ·rintro⟨y,hy,e⟩
  have:y=x:=by simpa [Function.comp,zi,Lit.sameKey] using e
  rw[←this];exact hy
 ·intro hx
  exact⟨x,hx,by simp[Function.comp,zi,Lit.sameKey]⟩
theorem SetV.new (w:World):SetV (w.alloc (.map #[] 0)) w.heap.size []:=⟨World.ownsMap_made w _ _ _,fun x hx=>by cases hx⟩
theorem SetV.lt {w:World} {b:Nat} {E:List Int} (h:SetV w b E):b<w.heap.size:=h.1.lt
theorem SetV.keep {w X:World} {b:Nat} {E:List Int} (h:SetV w b E) (e:X.heap[b]? =w.heap[b]?):SetV X b E:=by
 obtain⟨⟨es,clock,hb,F,hs,hD⟩,hf⟩:=h
 exact⟨⟨es,clock,e.trans hb,F,hs,hD⟩,hf⟩
theorem SetV.later {w X:World} {b:Nat} {E:List Int} (h:SetV w b E) {B:Nat} (k:Below B w X) (hB:b<B):SetV X b E:=h.keep (k.block b hB)
theorem setK:Keyed Tryz.prog 3:=int_keyed Tryz.underlying3
theorem nhas_l (b:Nat) (E:List Int) (x:Int) (w:World) (h:SetV w b E) (hx:yQ x):
  Calls Tryz.prog 60 #[.map (some b),.int .i64 x] w fun e w'=>e= .returned (.bool (decide (x∈E)))∧Below w.heap.size w w':=by
 have hz:(zeroValue 87).run Tryz.prog w= .ok (.agg #[]) w:=by kernel_rfl
 obtain⟨ho,-⟩:=h
 have hk:=keyOf_int_mk Tryz.underlying3 (wf_fits hx)
 have HO:=ho
 clear ho
 go_enter Tryz.func60,Tryz.ntmps60
 go_wp2_with (at_lookup;refine wpList_lookup_own_unit _ rfl _ _ 80 rfl 3 87 setK Tryz.underlying80 hz b E.length _ rfl HO _ _ rfl hk ?_)
 go_ret
 exact⟨ret_bool (setD_has E x),Below.new1 _⟩
theorem setD_snoc (E:List Int) (x:Int):(setD E).put (zi x) (.agg [])=setD (E++[x]):=by
 unfold setD
 rw[List.map_append,List.map_cons,List.map_nil,setOf_snoc]
theorem nput_l (b:Nat) (E:List Int) (x:Int) (w:World) (h:SetV w b E) (hx:yQ x) (hn:E.length<1000000):
  Calls Tryz.prog 52 #[.map (some b),.int .i64 x] w fun e w'=>e= .returned (.tuple #[])∧SetV w' b (E++[x])∧w.grownBy w' (some b):=by
 obtain⟨ho,hf⟩:=h
 have hk:=keyOf_int_mk Tryz.underlying3 (wf_fits hx)
 have HO:=ho
 have hm:E.length<maxLen:=by unfold maxLen;omega
 have HF:=zk hf
 clear ho hf hn
 go_enter Tryz.func52,Tryz.ntmps52
 go_wp2_with (at_mapUpdate;refine wpList_mapUpdate_own _ rfl _ _ _ 80 rfl 3 87 setK Tryz.underlying80 _ b E.length _ rfl HO hm _ _ _ rfl rfl hk (.agg []) [] unitElem_mk ?_;intro w1 hown1 hgrow1)
 go_end0
 refine⟨rfl,⟨?_,?_⟩,hgrow1⟩
 ·rw[←setD_snoc,List.length_append];exact hown1
 ·intro y hy
  rcases List.mem_append.1 hy with hy|hy
  ·exact zq HF y hy
  ·simp at hy;subst hy;exact hx
def MwV (w:World) (b:Nat) (f:Int→Option Value):Prop:=
 ∃es clock,w.heap[b]? =some (.map es clock)∧(∀e∈es.toList,∃d:Int,e.key= .int .i64 d)∧
  ∀c:Int,(f c=none∧Instr.findNow (.int .i64) (.int .i64 c) es.toList 0=some none)∨∃v i,f c=some v∧Instr.findNow (.int .i64) (.int .i64 c) es.toList 0=some (some (i,v))
theorem same_z (c d:Int):Instr.sameNow (.int .i64) (.int .i64 c) (.int .i64 d)=some (c==d):=by simp[Instr.sameNow]
theorem nfind_app (k:Value):∀(es:List MapEntry) (e:MapEntry) (n:Nat),Instr.findNow (.int .i64) k (es++[e]) n=match Instr.findNow (.int .i64) k es n with
  |some none=>Instr.findNow (.int .i64) k [e] (n+es.length)
  |r=>r:=by
 intro es
 induction es with
 |nil=>intro e n;simp[Instr.findNow]
 |cons x t ih=>
  intro e n
  rw[List.cons_append]
  unfold Instr.findNow
  cases h:Instr.sameNow (.int .i64) k x.key with
  |none=>rfl
  |some b=>
   cases b with
   |true=>rfl
   |false=>
    simp only
    rw[ih]
    cases h2:Instr.findNow (.int .i64) k t (n+1)with
    |none=>rfl
    |some r=>
     cases r with
     |none=>
      simp only[List.length_cons]
      rw[show n+1+t.length=n+(t.length+1) by omega]
      unfold Instr.findNow
      rfl
     |some q=>rfl
theorem nfind_mod (c:Int) (u:Value):∀(es:List MapEntry) (n i:Nat) (v:Value),(∀e∈es,∃d:Int,e.key= .int .i64 d)→Instr.findNow (.int .i64) (.int .i64 c) es n=some (some (i,v))→
  n≤i∧(∃e,es[i-n]? =some e∧e.key= .int .i64 c)∧∀x:Int,Instr.findNow (.int .i64) (.int .i64 x) (es.modify (i-n) fun e=>{e with key:= .int .i64 c,val:=u}) n=if x=c then some (some (i,u))else Instr.findNow (.int .i64) (.int .i64 x) es n:=by
 intro es
 induction es with
 |nil=>intro n i v _ h;simp[Instr.findNow]at h
 |cons e t ih=>
  intro n i v hk h
  obtain⟨d,hd⟩:=hk e List.mem_cons_self
  unfold Instr.findNow at h
  rw[hd,same_z]at h
  by_cases hc:c=d
  ·rw[show(c==d)=true by simp[hc]]at h
   simp only[Option.some.injEq,Prod.mk.injEq]at h
   obtain⟨rfl,rfl⟩:=h
   refine⟨Nat.le_refl _,⟨e,by simp,by rw[hd,hc]⟩,fun x=> ?_⟩
   rw[Nat.sub_self]
   simp only[List.modify_zero_cons]
   unfold Instr.findNow
   simp only[same_z]
   by_cases hx:x=c
   ·rw[if_pos hx,show(x==c)=true by simp[hx]]
   ·rw[if_neg hx,show(x==c)=false by simpa using hx,hd,same_z,show(x==d)=false by rw[←hc];simpa using hx]
  ·rw[show(c==d)=false by simpa using hc]at h
   simp only at h
   obtain⟨h1,⟨e',h2,h3⟩,h4⟩:=ih (n+1) i v (fun e he=>hk e (List.mem_cons_of_mem _ he)) h
   have e1:i-n=(i-(n+1))+1:=by omega
   refine⟨by omega,⟨e',by rw[e1];simpa using h2,h3⟩,fun x=> ?_⟩
   rw[e1]
   simp only[List.modify_succ_cons]
   unfold Instr.findNow
   rw[hd,same_z]
   by_cases hx:x=d
   ·rw[show(x==d)=true by simp[hx],if_neg (by intro hxc;exact hc (hxc.symm.trans hx))]
   ·rw[show(x==d)=false by simpa using hx]
    simp only
    rw[h4]
def updV (f:Int→Option Value) (c:Int) (v:Value):Int→Option Value:=fun x=>if x=c then some v else f x
theorem MwV.new (w:World):MwV (w.alloc (.map #[] 0)) w.heap.size (fun _=>none):=⟨#[],0,heap_alloc_new w _,fun e he=>by simp at he,fun c=> .inl ⟨rfl,rfl⟩⟩
theorem MwV.keep {w X:World} {b:Nat} {f:Int→Option Value} (h:MwV w b f) (e:X.heap[b]? =w.heap[b]?):MwV X b f:=by
 obtain⟨es,clock,hb,hf⟩:=h
 exact⟨es,clock,e.trans hb,hf⟩
theorem MwV.lt {w:World} {b:Nat} {f:Int→Option Value} (h:MwV w b f):b<w.heap.size:=by
 obtain⟨es,clock,h1,hf⟩:=h
 exact(Array.getElem?_eq_some_iff.1 h1).1
theorem ck_int (e:Bool) (c:Int) (W:World):(Instr.checkKey e 10000 3 (.int .i64 c)).run Tryz.prog W= .ok () W:=by
 show(Instr.checkKey e (9999+1) 3 (.int .i64 c)).run Tryz.prog W= .ok () W
 rw[Instr.checkKey]
 simp[run_underlying Tryz.underlying3]
theorem MwV.put {w:World} {b:Nat} {f:Int→Option Value} (h:MwV w b f) (c:Int) (u:Value) (hfc:yQ c):
  ∃w',(Instr.mapUpdate 166 (.map (some b)) (.int .i64 c) u).run Tryz.prog w= .ok () w'∧MwV w' b (updV f c u)∧w.grownBy w' (some b)∧w'.heap.size=w.heap.size:=by
 obtain⟨es,clock,hb,hk,hf⟩:=h
 have hlt:=(Array.getElem?_eq_some_iff.1 hb).1
 have hst:=setK.stays w (keyOf_int_mk Tryz.underlying3 (wf_fits hfc))
 rcases hf c with ⟨h1,hnow⟩|⟨v,i,h1,hnow⟩
 ·refine⟨{w with heap:=w.heap.setIfInBounds b (.map (es.push {key:= .int .i64 c,val:=u,born:=clock}) (clock+1))},?_,?_,⟨rfl,rfl,rfl,by simp,fun k _ hn=>by simp[Array.getElem?_setIfInBounds,show b≠k from fun e=>hn (by rw[e])]⟩,by simp⟩
  ·simp[Instr.mapUpdate,run_underlying Tryz.underlying166,getObj,setObj,hb,ck_int,run_underlying Tryz.underlying3,Instr.findKey,hnow,Sem.run]
  ·refine⟨es.push {key:= .int .i64 c,val:=u,born:=clock},clock+1,by simp[Array.getElem?_setIfInBounds,hlt],fun e he=> ?_,fun x=> ?_⟩
   ·rw[Array.toList_push]at he
    rcases List.mem_append.1 he with he|he
    ·exact hk e he
    ·simp at he;subst he;exact⟨c,rfl⟩
   ·rw[Array.toList_push,nfind_app]
    unfold updV
    by_cases e:x=c
    ·subst e
     rw[hnow,if_pos rfl]
     exact .inr ⟨u,_,rfl,by simp[Instr.findNow,same_z];rfl⟩
    ·rw[if_neg e]
     rcases hf x with ⟨h1,h2⟩|⟨g',j,h1,h2⟩
     ·refine .inl ⟨h1,?_⟩
      rw[h2]
      have:(x==c)=false:=beq_eq_false_iff_ne.2 e
      simp[Instr.findNow,same_z,this]
     ·exact .inr ⟨g',j,h1,by rw[h2]⟩
 ·obtain⟨-,⟨e0,he0,hke⟩,hm⟩:=nfind_mod c u es.toList 0 i v hk hnow
  rw[Nat.sub_zero]at he0 hm
  have hei:es[i]? =some e0:=by simpa using he0
  refine⟨{w with heap:=w.heap.setIfInBounds b (.map (es.modify i fun e=>{e with key:= .int .i64 c,val:=u}) clock)},?_,?_,⟨rfl,rfl,rfl,by simp,fun k _ hn=>by simp[Array.getElem?_setIfInBounds,show b≠k from fun e=>hn (by rw[e])]⟩,by simp⟩
  ·simp[Instr.mapUpdate,run_underlying Tryz.underlying166,getObj,setObj,hb,ck_int,run_underlying Tryz.underlying3,Instr.findKey,hnow,hei,hke,hst,Sem.run]
  ·refine⟨es.modify i fun e=>{e with key:= .int .i64 c,val:=u},clock,by simp[Array.getElem?_setIfInBounds,hlt],fun e he=> ?_,fun x=> ?_⟩
   ·rw[Array.toList_modify]at he
    obtain⟨j,hj⟩:=List.mem_iff_getElem?.1 he
    rw[List.getElem?_modify]at hj
    cases h3:es.toList[j]? with
    |none=>rw[h3]at hj;simp at hj
    |some e'=>
     rw[h3]at hj
     simp only[Option.map_eq_map,Option.map_some,Option.some.injEq]at hj
     subst hj
     by_cases hij:i=j
     ·rw[if_pos hij];exact⟨c,rfl⟩
     ·rw[if_neg hij];exact hk e' (List.mem_of_getElem? h3)
   ·rw[Array.toList_modify,hm]
    unfold updV
    by_cases e:x=c
    ·rw[if_pos e,if_pos e];exact .inr ⟨u,i,rfl,rfl⟩
    ·rw[if_neg e,if_neg e];exact hf x
theorem MwV.get {w:World} {b:Nat} {f:Int→Option Value} (h:MwV w b f) (c:Int):
  (Instr.lookup 166 (.map (some b)) (.int .i64 c) false).run Tryz.prog w= .ok ((f c).getD (.slice none 0 0)) w:=by
 obtain⟨es,clock,hb,hk,hf⟩:=h
 have hz:(zeroValue 164).run Tryz.prog w= .ok (.slice none 0 0) w:=by kernel_rfl
 rcases hf c with ⟨h1,h2⟩|⟨g,i,h1,h2⟩
 ·simp[Instr.lookup,run_underlying Tryz.underlying166,getObj,hb,ck_int,run_underlying Tryz.underlying3,Instr.findKey,h2,h1,hz,Sem.run]
 ·simp[Instr.lookup,run_underlying Tryz.underlying166,getObj,hb,ck_int,run_underlying Tryz.underlying3,Instr.findKey,h2,h1,Sem.run]
end Go.Proofs.YtcblkmlcbedomaaGreatDoor.Nl

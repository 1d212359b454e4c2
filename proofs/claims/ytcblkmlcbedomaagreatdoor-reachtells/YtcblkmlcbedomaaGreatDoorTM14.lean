/- Parts of the proof that stand ahead of it (T 14). -/
import Derived.Test.YtcblkmlcbedomaaGreatDoorTM12
import Derived.Test.YtcblkmlcbedomaaGreatDoorTM6
set_option linter.unusedVariables false
set_option linter.unusedSimpArgs false
set_option maxRecDepth 20000
set_option maxHeartbeats 16000000
namespace Go.Proofs.YtcblkmlcbedomaaGreatDoor
open Go.RowKit Go.Shelf
def outL (done:List (Int×Int)):Option Int→List (Int×Int)
 |none=>done
 |some lo=>done++[(lo,lo)]
structure MI (w:World) (fv:Value) (p:Int→Bool) (pre:List Int) (W:World):Prop where
 bel:Below w.heap.size w W
 size:w.heap.size+4≤W.heap.size
 ask:W.heap[w.heap.size+1]? =some (.cells #[fv] 76)
 ex:∃v done st,W.heap[w.heap.size+2]? =some (.cells #[v] 39)∧W.heap[w.heap.size+3]? =some (.cells #[.bool st.isSome] 4)∧
  W.ownsRow (w.heap.size+4) 51 2 v (outL done st).length (yx (outL done st))∧(∀rest,G.run p none (pre++rest)=done++G.run p st rest)∧(outL done st).length≤pre.length
theorem MI.put {w:World} {fv:Value} {p:Int→Bool} {pre:List Int} {W:World} (h:MI w fv p pre W) {l:Nat} {o:Obj} (o':Obj) (hl:w.heap.size+4≤l) (ho:W.heap[l]? =some o) (hc:o.isCells=false):MI w fv p pre (W.putObj l o'):=by
 obtain⟨v,done,st,h2,h3,h4,h5,h6⟩:=h.ex
 have hs:=h.size
 exact⟨h.bel.grown (grownBy_putObj' W l o') (by omega) (fun k e=>by cases e;omega),by simpa using hs,(World.putObj_heap_other (by omega)).trans h.ask,
  v,done,st,(World.putObj_heap_other (by omega)).trans h2,(World.putObj_heap_other (by omega)).trans h3,ownsRow_putObj h4 o' ho hc,h5,h6⟩
theorem MI.alloc {w:World} {fv:Value} {p:Int→Bool} {pre:List Int} {W:World} (h:MI w fv p pre W) (o:Obj):MI w fv p pre (W.alloc o):=by
 obtain⟨v,done,st,h2,h3,h4,h5,h6⟩:=h.ex
 have hs:=h.size
 exact⟨h.bel.alloc (by omega) o,by simp;omega,(Below.heap_alloc _ _ _ (by omega)).trans h.ask,
  v,done,st,(Below.heap_alloc _ _ _ (by omega)).trans h2,(Below.heap_alloc _ _ _ (by omega)).trans h3,h4.alloc o,h5,h6⟩
theorem MI.drewN {w:World} {fv:Value} {p:Int→Bool} {pre:List Int} {W:World} (h:MI w fv p pre W) (k:Nat):MI w fv p pre (W.drewN k):=by
 obtain⟨v,done,st,h2,h3,h4,h5,h6⟩:=h.ex
 exact⟨⟨h.bel.os,h.bel.tape,h.bel.output,by simpa using h.bel.size,by simpa using h.bel.block⟩,by simpa using h.size,by simpa using h.ask,v,done,st,by simpa using h2,by simpa using h3,h4,h5,h6⟩
namespace G
theorem mrg_length (xs ys:List Int):(mrg xs ys).length≤xs.length+ys.length:=by
 induction xs generalizing ys with
 |nil=>simp[mrg_left]
 |cons x xs ih=>
  induction ys with
  |nil=>rw[mrg_nil];simp
  |cons y ys ihy=>
   rw[mrg_cons]
   split
   ·have:=ih (y::ys);simp at*;omega
   ·split
    ·simp at*;omega
    ·have:=ih ys;simp at*;omega
end G
theorem jV {W:World} {base:Nat} {e:TypeId} {size:Nat} {v:Value} {n:Nat} {xs:List Value} (h:W.ownsRow base e size v n xs) {k:Nat} {cs:Array Value} {t:TypeId} (hk:W.heap[k]? =some (.cells cs t)) (ht:t≠e):some k≠v.ownBlock:=by
 rcases h.2 with ⟨rfl,_⟩|⟨g,cap,cur,rfl,_,hg,_⟩
 ·simp[Value.ownBlock]
 ·intro e'
  simp only[Value.ownBlock,Option.some.injEq]at e'
  subst e'
  rw[hg]at hk
  simp only[Option.some.injEq,Obj.cells.injEq]at hk
  exact ht hk.2.1.symm
theorem own_cells {W:World} {base:Nat} {e:TypeId} {size:Nat} {v:Value} {n:Nat} {xs:List Value} (h:W.ownsRow base e size v n xs):∀(j:Nat) (o:Obj),v.ownBlock=some j→W.heap[j]? =some o→o.isCells=true:=by
 intro j o hj ho
 rcases h.2 with ⟨rfl,_⟩|⟨g,cap,cur,rfl,_,hg,_⟩
 ·simp[Value.ownBlock]at hj
 ·simp only[Value.ownBlock,Option.some.injEq]at hj
  subst hj
  rw[hg]at ho
  cases ho;rfl
theorem alloc_at (w:World) (o:Obj) (k:Nat) (hk:k=w.heap.size):(w.alloc o).heap[k]? =some o:=by subst hk;exact World.alloc_heap_new w o
theorem Xq {W W':World} (h:Below W.heap.size W W'):KeepsOthers W W':=⟨h.size,fun k o hk _=>(h.block k (Array.getElem?_eq_some_iff.1 hk).1).trans hk⟩
theorem below_grown {W W':World} (h:Below W.heap.size W W'):W.grownBy W' none:=⟨h.os,h.tape,h.output,h.size,fun k hk _=>h.block k hk⟩
theorem Yw {W W':World} (h:Below W.heap.size W W') {base:Nat} {e:TypeId} {size:Nat} {v:Value} {n:Nat} {xs:List Value} (ho:W.ownsRow base e size v n xs):W'.ownsRow base e size v n xs:=
 ho.kept (below_grown h) (by cases v.ownBlock<;>simp)
theorem j0 {W:World} {k:Nat} {u:Value} {t:TypeId} (h:W.heap[k]? =some (.cells #[u] t)):W.cell? ⟨k,0,none⟩=some u∧W.frozen? ⟨k,0,none⟩=false:=by
 constructor
 ·simp[World.cell?,h]
 ·simp[World.frozen?,h]
theorem put_cell {W:World} {k:Nat} {u v:Value} {t:TypeId} (h:W.heap[k]? =some (.cells #[u] t)):(W.setCell ⟨k,0,none⟩ v).heap[k]? =some (.cells #[v] t):=by
 have:=heap_setCell_same W k 0 #[u] t v h
 simpa using this
def After (w:World) (fv:Value) (p:Int→Bool) (ob:Obj) (pre:List Int) (x:Int) (W W':World):Prop:=KeepsFrom (w.heap.size+4) W W'∧MI w fv p (pre++[x]) W'∧W'.heap[w.heap.size+6]? =some ob
theorem after_end {w:World} {fv:Value} {p:Int→Bool} {ob:Obj} {pre:List Int} {x:Int} {W W':World} {N:Nat} {a:Act} (hN:N=w.heap.size+4) (h:After w fv p ob pre x W W'):
  onlyEnd (fun W'=>KeepsFrom N W W'∧MI w fv p (pre++[x]) W'∧W'.heap[N+2]? =some ob) .normal a W':=by
 subst hN
 exact h
theorem MI.idle {w:World} {fv:Value} {p:Int→Bool} {ob:Obj} {pre:List Int} {x:Int} {W W2:World} (h:MI w fv p pre W) (hob:W.heap[w.heap.size+6]? =some ob) (h2:Below W.heap.size W W2) (v:Value) (done:List (Int×Int)) (st st':Option Int)
  (c2:W.heap[w.heap.size+2]? =some (.cells #[v] 39)) (c3:W.heap[w.heap.size+3]? =some (.cells #[.bool st.isSome] 4)) (own:W.ownsRow (w.heap.size+4) 51 2 v (outL done st).length (yx (outL done st)))
  (hrun:∀rest,G.run p none ((pre++[x])++rest)=done++G.run p st' rest) (hlen:(outL done st).length≤pre.length) (hst:st'=st):
  After w fv p ob pre x W (W2.setCell ⟨w.heap.size+3,0,none⟩ (.bool st.isSome)):=by
 subst hst
 have hs:=h.size
 have hs2:=h2.size
 have lob:w.heap.size+6<W.heap.size:=(Array.getElem?_eq_some_iff.1 hob).1
 have k3:W2.heap[w.heap.size+3]? =some (.cells #[.bool st'.isSome] 4):=(h2.block _ (by omega)).trans c3
 have ow2:=Yw h2 own
 refine⟨((Xq h2).trans (KeepsOthers.setCell _ _ _)).from _,⟨(h.bel.trans (h2.mono (by omega))).setCell (by simp) _,by simp[World.setCell];omega,(Below.heap_setCell _ _ _ _ (by simp)).trans ((h2.block _ (by omega)).trans h.ask),
  v,done,st',(Below.heap_setCell _ _ _ _ (by simp)).trans ((h2.block _ (by omega)).trans c2),put_cell k3,ownsRow_setCell_below ow2 (by simp) _,hrun,by simp;omega⟩,(Below.heap_setCell _ _ _ _ (by simp)).trans ((h2.block _ lob).trans hob)⟩
theorem MI.begin {w:World} {fv:Value} {p:Int→Bool} {ob:Obj} {pre:List Int} {x:Int} {W W2 W3:World} (h:MI w fv p pre W) {bc:Array Value} {bt:TypeId} (hobe:ob= .cells bc bt) (hbt:bt≠51) (hob:W.heap[w.heap.size+6]? =some ob) (h2:Below W.heap.size W W2) (v v':Value) (done:List (Int×Int)) (o1:Obj)
  (c2:W.heap[w.heap.size+2]? =some (.cells #[v] 39)) (c3:W.heap[w.heap.size+3]? =some (.cells #[.bool false] 4)) (own:W.ownsRow (w.heap.size+4) 51 2 v done.length (yx done))
  (own3:W3.ownsRow (w.heap.size+4) 51 2 v' (done.length+1) (yx done++[.int .i64 x,.int .i64 x])) (hg:(W2.alloc o1).grownBy W3 v.ownBlock)
  (hrun:∀rest,G.run p none ((pre++[x])++rest)=done++G.run p (some x) rest) (hlen:done.length≤pre.length):
  After w fv p ob pre x W ((W3.setCell ⟨w.heap.size+2,0,none⟩ v').setCell ⟨w.heap.size+3,0,none⟩ (.bool true)):=by
 subst hobe
 have hs:=h.size
 have hs2:=h2.size
 have hs3:=hg.size
 simp only[World.size_alloc]at hs3
 have lob:w.heap.size+6<W.heap.size:=(Array.getElem?_eq_some_iff.1 hob).1
 have ow2:=Yw h2 own
 have keep:∀k,k<W.heap.size→some k≠v.ownBlock→W3.heap[k]? =W.heap[k]? :=fun k hk hne=>(hg.block k (by simp;omega) hne).trans ((Below.heap_alloc _ _ _ (by omega)).trans (h2.block k hk))
 have k1:W3.heap[w.heap.size+1]? =some (.cells #[fv] 76):=(keep _ (by omega) (jV own h.ask (by decide))).trans h.ask
 have k2:W3.heap[w.heap.size+2]? =some (.cells #[v] 39):=(keep _ (by omega) (jV own c2 (by decide))).trans c2
 have k3:W3.heap[w.heap.size+3]? =some (.cells #[.bool false] 4):=(keep _ (by omega) (jV own c3 (by decide))).trans c3
 have k6:W3.heap[w.heap.size+6]? =some (.cells bc bt):=(keep _ lob (jV own hob hbt)).trans hob
 have cl:yx (done++[(x,x)])=yx done++[.int .i64 x,.int .i64 x]:=by rw[yj];rfl
 refine⟨((((Xq h2).trans (KeepsOthers.alloc _ o1)).trans (KeepsOthers.of_grownBy hg (own_cells (ow2.alloc o1)))).trans ((KeepsOthers.setCell _ _ _).trans (KeepsOthers.setCell _ _ _))).from _,
  ⟨((((h.bel.trans (h2.mono (by omega))).alloc (by omega) o1).grown hg (by simp;omega) (fun k hk=>by have:=(own.lt k hk).1;omega)).setCell (by simp) _).setCell (by simp) _,by simp[World.setCell];omega,
   (Below.heap_setCell _ _ _ _ (by simp)).trans ((Below.heap_setCell _ _ _ _ (by simp)).trans k1),
   v',done,some x,(Below.heap_setCell _ _ _ _ (by simp)).trans (put_cell k2),put_cell ((Below.heap_setCell _ _ _ _ (by simp)).trans k3),?_,hrun,by simp[outL];omega⟩,
  (Below.heap_setCell _ _ _ _ (by simp)).trans ((Below.heap_setCell _ _ _ _ (by simp)).trans k6)⟩
 show World.ownsRow _ _ _ _ _ (done++[(x,x)]).length (yx (done++[(x,x)]))
 rw[cl,List.length_append]
 exact ownsRow_setCell_below (ownsRow_setCell_below own3 (by simp) _) (by simp) _
theorem cellsL_set (done:List (Int×Int)) (lo y:Int):(yx (done++[(lo,lo)])).set (done.length*2+1) (.int .i64 y)=yx (done++[(lo,y)]):=by
 rw[yj,yj,List.set_append_right _ _ (by rw[yo];omega),yo,show done.length*2+1-done.length*2=1 by omega]
 rfl
theorem MI.over {w:World} {fv:Value} {p:Int→Bool} {ob:Obj} {pre:List Int} {x:Int} {W W2:World} (h:MI w fv p pre W) {bc:Array Value} {bt:TypeId} (hobe:ob= .cells bc bt) (hbt:bt≠51) (hob:W.heap[w.heap.size+6]? =some ob) (h2:Below W.heap.size W W2) (g cap:Nat) (done:List (Int×Int)) (lo:Int)
  (c2:W.heap[w.heap.size+2]? =some (.cells #[.slice (some ⟨g,0,none⟩) (done.length+1) cap] 39)) (c3:W.heap[w.heap.size+3]? =some (.cells #[.bool true] 4)) (own:W.ownsRow (w.heap.size+4) 51 2 (.slice (some ⟨g,0,none⟩) (done.length+1) cap) (done.length+1) (yx (done++[(lo,lo)])))
  (hrun:∀rest,G.run p none ((pre++[x])++rest)=(done++[(lo,x-1)])++G.run p none rest) (hlen:done.length+1≤pre.length):
  After w fv p ob pre x W ((W2.setCell ⟨g,done.length*2+1,none⟩ (.int .i64 (x-1))).setCell ⟨w.heap.size+3,0,none⟩ (.bool false)):=by
 subst hobe
 have hs:=h.size
 have hs2:=h2.size
 have lob:w.heap.size+6<W.heap.size:=(Array.getElem?_eq_some_iff.1 hob).1
 have ow2:=Yw h2 own
 obtain⟨o3,g3⟩:=ow2.stored (done.length*2+1) (.int .i64 (x-1))
 rw[cellsL_set]at o3
 have keep:∀k,k<W.heap.size→some k≠(Value.slice (some ⟨g,0,none⟩) (done.length+1) cap).ownBlock→(W2.setCell ⟨g,done.length*2+1,none⟩ (.int .i64 (x-1))).heap[k]? =W.heap[k]? :=fun k hk hne=>(g3.block k (by omega) hne).trans (h2.block k hk)
 have k1:=(keep _ (by omega) (jV own h.ask (by decide))).trans h.ask
 have k2:=(keep _ (by omega) (jV own c2 (by decide))).trans c2
 have k3:=(keep _ (by omega) (jV own c3 (by decide))).trans c3
 have k6:=(keep _ lob (jV own hob hbt)).trans hob
 have gb:=(own.lt g rfl).1
 refine⟨(((Xq h2).trans (KeepsOthers.setCell _ _ _)).trans (KeepsOthers.setCell _ _ _)).from _,
  ⟨((h.bel.trans (h2.mono (by omega))).setCell (by simp;omega) _).setCell (by simp) _,by simp[World.setCell];omega,(Below.heap_setCell _ _ _ _ (by simp)).trans k1,
   .slice (some ⟨g,0,none⟩) (done.length+1) cap,done++[(lo,x-1)],none,(Below.heap_setCell _ _ _ _ (by simp)).trans k2,put_cell k3,?_,hrun,by simp[outL];omega⟩,
  (Below.heap_setCell _ _ _ _ (by simp)).trans k6⟩
 show World.ownsRow _ _ _ _ _ (done++[(lo,x-1)]).length (yx (done++[(lo,x-1)]))
 rw[List.length_append]
 exact ownsRow_setCell_below o3 (by simp) _
attribute [local go_sem] Oper.semAt_some
theorem merge_any (fa:Nat) (p:Int→Bool) (a:Option Addr) (la ca:Nat) (A:List (Int×Int)) (b:Option Addr) (lb cb:Nat) (B:List (Int×Int)) (w:World) (h:Pr w a la ca A b lb cb B)
  (hen:∀args w,(callFunc fa args).run Tryz.prog w= .ok (.enter fa args) w)
  (hask:∀(n:Int) (W:World),Pr W a la ca A b lb cb B→Calls Tryz.prog fa #[.agg #[.slice a la ca,.slice b lb cb],.int .i64 n] W fun e w'=>e= .returned (.bool (p n))∧Below W.heap.size W w'):
  Calls Tryz.prog 221 #[.agg #[.slice a la ca,.slice b lb cb],.func (.func fa) #[.agg #[.slice a la ca,.slice b lb cb]] #[]] w fun e w'=>
   ∃v,e= .returned v∧Ow w' w.heap.size v (G.run p none (G.mrg (G.bs A) (G.bs B)))∧Below w.heap.size w w':=by
 have hmf:∀(fn:Fn) (first cap:Array Value) (w:World),(Instr.makeFunc fn first cap).run Tryz.prog w= .ok (.func fn first cap) w:=fun _ _ _ _=>rfl
 refine(callsIn_wide (n:=6)).1 ?_
 refine callsIn_of_wp_marks Tryz.func221 rfl trivial ?_ rfl
 simp only[Tryz.ntmps221,List.size_toArray,List.length_cons,List.length_nil,Nat.reduceAdd,Nat.reduceSub,Array.replicate_succ,Array.replicate_zero,List.push_toArray,List.append_toArray,List.nil_append,List.cons_append]
 have HA:=zk hask
 clear hask
 have HP:=zk h
 clear h
 have hx48:∀args w,(callFunc 238 args).run Tryz.prog w= .ok (.enter 238 args) w:=enters_of Tryz.func238 (by kernel_rfl) rfl
 obtain⟨i0,hi0,hz0,hz1,hz2⟩:=info_parts infoRg
 gi_wp2
 have bel0:Below w.heap.size w ((((w.alloc (boxPr a la ca b lb cb)).alloc (.cells #[.func (.func fa) #[.agg #[.slice a la ca,.slice b lb cb]] #[]] 76)).alloc (.cells #[.slice none 0 0] 39)).alloc (.cells #[.bool false] 4)):=
  ((((Below.refl _ w).alloc (Nat.le_refl _) _).alloc (by simp) _).alloc (by simp;omega) _).alloc (by simp;omega) _
 generalize hfv:Value.func (.func fa) #[.agg #[.slice a la ca,.slice b lb cb]] #[]=fv at*
 refine rangeBound (n:=6) (by omega) (gf:=238) (rb:= #[.agg #[.slice a la ca,.slice b lb cb]]) rfl hx48 (G.mrg (G.bs A) (G.bs B)) (boxPr a la ca b lb cb) (MI w fv p)
  (fun pre W l o o' hi hl ho hc=>hi.put o' (by simp at hl;omega) ho hc) (fun pre W o hi=>hi.alloc o) (fun pre W k hi=>hi.drewN k) ?start
  (fun x=>{tmps:= #[.agg #[.slice a la ca,.slice b lb cb],fv,.pointer (some ⟨w.heap.size,0,none⟩),.pointer (some ⟨w.heap.size+1,0,none⟩),.slice none 0 0,.pointer (some ⟨w.heap.size+1+1,0,none⟩),.pointer (some ⟨w.heap.size+1+1+1,0,none⟩),.int .i64 x,undef,.agg #[.slice a la ca,.slice b lb cb],.func (.func 238) #[.agg #[.slice a la ca,.slice b lb cb]] #[],.int .i64 x,undef,undef,undef,undef,undef,undef,undef,undef,undef,undef,undef,undef,undef,undef,undef,undef,undef,undef,undef,undef,undef,undef,undef,undef,undef,undef,undef,undef,undef],defers:=[]})
  ?assign ?body ?iter ?done
 case start=>
  refine⟨bel0,by simp,?_,.slice none 0 0,[],none,?_,?_,World.ownsRow_nil _ _ _ _,fun rest=>by simp,by simp[outL]⟩
  ·exact(Below.heap_alloc _ _ _ (by simp)).trans ((Below.heap_alloc _ _ _ (by simp)).trans (alloc_at _ _ _ (by simp)))
  ·exact(Below.heap_alloc _ _ _ (by simp)).trans (alloc_at _ _ _ (by simp))
  ·exact alloc_at _ _ _ (by simp)
 case assign=>
  intro l x W K hK
  gi_wp2
  exact hK
 case iter=>
  intro lr W J hsz hJI hJd hY h0
  rw[←hsz]at hY
  exact borders_iter 5 (by omega) lr a la ca A b lb cb B W J (fun pre W1 hj=>(zq HP).later (hJI _ _ hj).bel (Nat.le_refl _)) hJd hY h0
 case body=>
  rintro l pre x W hI hob ⟨rest,hrest⟩
  obtain⟨v,done,st,c2,c3,own,hrun,hlen⟩:=hI.ex
  have ask:=(j0 hI.ask).1
  have cA:=zq HA x W ((zq HP).later hI.bel (Nat.le_refl _))
  have hsz:=hI.size
  have hI':=zk hI
  have hob':Hid (W.heap[w.heap.size+6]? =some (boxPr a la ca b lb cb)):=by
   have:=hob
   simp only[World.size_alloc]at this
   exact this
  have hbnd:pre.length+1≤5000000:=by
   have l1:=G.mrg_length (G.bs A) (G.bs B)
   rw[←hrest,List.length_append,G.YW,G.YW]at l1
   have:=G.j6 (zq HP).ma
   have:=G.j6 (zq HP).mb
   simp at l1
   omega
  have hx:0≤x∧x≤1114112:=by
   have m:x∈G.mrg (G.bs A) (G.bs B):=by rw[←hrest];simp
   rcases (G.mem_mrg _ _).1 m with m|m
   ·exact G.bs_le (zq HP).ma m
   ·exact G.bs_le (zq HP).mb m
  obtain⟨hx0,hx1⟩:=hx
  subst hfv
  clear hI hmf hob hrest bel0
  cases st with
  |none=>
   have C2:=zk c2
   have C3:=zk c3
   have own':=zk own
   clear c2 c3 own
   simp only[outL]at hlen own'
   cases hpx:p x with
   |false=>
    rw[hpx]at cA
    have CA:=zk cA
    have HR:Hid (∀rest,G.run p none ((pre++[x])++rest)=done++G.run p none rest):=fun rest=>by
     rw[List.append_assoc,List.singleton_append,hrun,G.run,hpx];simp
    clear cA hrun hpx
    gi_wp2_with fail
    refine⟨trivial,?_⟩
    refine(CallsIn.inRound l (callsIn_wide.2 (zq CA))).mono ?_
    rintro e W2 ⟨rfl,hb2⟩
    have g2:=j0 ((hb2.block _ (by omega)).trans (zq C2))
    have g3:=j0 ((hb2.block _ (by omega)).trans (zq C3))
    obtain⟨g2,g2f⟩:=g2
    obtain⟨g3,g3f⟩:=g3
    gi_wp2_with fail
    refine after_end (by simp) ?_
    exact(zq hI').idle (zq hob') hb2 v done none none (zq C2) (zq C3) (zq own') (zq HR) hlen rfl
   |true=>
    rw[hpx]at cA
    have CA:=zk cA
    have HR:Hid (∀rest,G.run p none ((pre++[x])++rest)=done++G.run p (some x) rest):=fun rest=>by
     rw[List.append_assoc,List.singleton_append,hrun,G.run,hpx];simp
    clear cA hrun hpx
    gi_wp2_with fail
    refine⟨trivial,?_⟩
    refine(CallsIn.inRound l (callsIn_wide.2 (zq CA))).mono ?_
    rintro e W2 ⟨rfl,hb2⟩
    have g2:=j0 ((hb2.block _ (by omega)).trans (zq C2))
    have g3:=j0 ((hb2.block _ (by omega)).trans (zq C3))
    obtain⟨g2,g2f⟩:=g2
    obtain⟨g3,g3f⟩:=g3
    have own2:=Yw hb2 (zq own')
    have b2:=hb2.size
    have n2:=fun k u t (hk:W.heap[k]? =some (Obj.cells #[u] t)) (ht:t≠51)=>jV (zq own') hk ht
    have a2:=zk (n2 _ _ _ (zq C2) (by decide))
    have a3:=zk (n2 _ _ _ (zq C3) (by decide))
    clear n2
    gi_wp2_with (gi_at_builtin;refine wpListIn_append_own _ rfl _ _ 39 rfl (w.heap.size+4) 51 i0 _ 2 16 Tryz.underlying39 hi0 hz0 hz1 hz2 rfl (by omega) _ _ _ rfl (own2.alloc _) ⟨W2.heap.size,0,none⟩ 1 1 [.int .i64 x,.int .i64 x] rfl rfl (jW _ _ _ _ rfl) (by simp[Value.oneCell']) (by unfold maxLen;omega) (by omega) (by simp;omega) ?_;intro v' W3 hown3 hgrow _;obtain⟨g',cap',rfl⟩:=ownsRow_succ hown3;have q2:=j0 ((hgrow.block _ (by simp;omega) (zq a2)).trans ((Below.heap_alloc _ _ _ (by omega)).trans ((hb2.block _ (by omega)).trans (zq C2))));have q3:=j0 ((hgrow.block _ (by simp;omega) (zq a3)).trans ((Below.heap_alloc _ _ _ (by omega)).trans ((hb2.block _ (by omega)).trans (zq C3))));obtain⟨q2,q2f⟩:=q2;obtain⟨q3,q3f⟩:=q3)
    refine after_end (by simp) ?_
    exact(zq hI').begin rfl (by decide) (zq hob') hb2 v _ done _ (zq C2) (zq C3) (zq own') hown3 hgrow (zq HR) hlen
  |some lo=>
   obtain⟨g,cap,hv⟩:=ownsRow_succ (k:=done.length) (by simpa [outL] using own)
   subst hv
   have C2:=zk c2
   have C3:=zk c3
   have own':Hid (W.ownsRow (w.heap.size+4) 51 2 (.slice (some ⟨g,0,none⟩) (done.length+1) cap) (done.length+1) (yx (done++[(lo,lo)]))):=by
    have:=own
    simp only[outL,List.length_append,List.length_cons,List.length_nil,Nat.zero_add]at this
    exact this
   clear c2 c3 own
   simp only[outL,List.length_append,List.length_cons,List.length_nil,Nat.zero_add]at hlen
   cases hpx:p x with
   |true=>
    rw[hpx]at cA
    have CA:=zk cA
    have HR:Hid (∀rest,G.run p none ((pre++[x])++rest)=done++G.run p (some lo) rest):=fun rest=>by
     rw[List.append_assoc,List.singleton_append,hrun,G.run,hpx];simp
    clear cA hrun hpx
    gi_wp2_with fail
    refine⟨trivial,?_⟩
    refine(CallsIn.inRound l (callsIn_wide.2 (zq CA))).mono ?_
    rintro e W2 ⟨rfl,hb2⟩
    have g2:=j0 ((hb2.block _ (by omega)).trans (zq C2))
    have g3:=j0 ((hb2.block _ (by omega)).trans (zq C3))
    obtain⟨g2,g2f⟩:=g2
    obtain⟨g3,g3f⟩:=g3
    gi_wp2_with fail
    refine after_end (by simp) ?_
    exact(zq hI').idle (zq hob') hb2 _ done (some lo) (some lo) (zq C2) (zq C3) (by simpa [outL] using zq own') (zq HR) (by simp[outL];omega) rfl
   |false=>
    rw[hpx]at cA
    have CA:=zk cA
    have HR:Hid (∀rest,G.run p none ((pre++[x])++rest)=(done++[(lo,x-1)])++G.run p none rest):=fun rest=>by
     rw[List.append_assoc,List.singleton_append,hrun,G.run,hpx];simp
    clear cA hrun hpx
    gi_wp2_with fail
    refine⟨trivial,?_⟩
    refine(CallsIn.inRound l (callsIn_wide.2 (zq CA))).mono ?_
    rintro e W2 ⟨rfl,hb2⟩
    have g2:=j0 ((hb2.block _ (by omega)).trans (zq C2))
    have g3:=j0 ((hb2.block _ (by omega)).trans (zq C3))
    obtain⟨g2,g2f⟩:=g2
    obtain⟨g3,g3f⟩:=g3
    have own2:=Yw hb2 (zq own')
    have u1:=own2.cellAt (done.length*2+1) (by omega)
    have u2:=own2.frozenAt (done.length*2+1)
    rw[yj,List.getElem?_append_right (by rw[yo];omega),yo,show done.length*2+1-done.length*2=1 by omega,show(yx [(lo,lo)])[1]? =some (.int .i64 lo) from rfl]at u1
    gi_wp2_with fail
    refine after_end (by simp) ?_
    exact(zq hI').over rfl (by decide) (zq hob') hb2 g cap done lo (zq C2) (zq C3) (zq own') (zq HR) hlen
 case done=>
  intro W hi hD
  obtain⟨v,done,st,c2,c3,own,hrun,hlen⟩:=hi.ex
  have ho:=(j0 c2).1
  have e:outL done st=G.run p none (G.mrg (G.bs A) (G.bs B)):=by
   have:=hrun []
   rw[List.append_nil]at this
   rw[this]
   cases st<;>simp[outL,G.run]
  rw[e]at own
  have hi':=zk hi
  have own':=zk own
  clear hi own e hrun hlen c2 c3
  gi_wp2
  refine⟨by simp,.inl ⟨_,_,rfl,run_takeDeferred hD,?_⟩⟩
  exact⟨_,results_tmp rfl _ _ _,v,rfl,ownsRow_putObj (own_mono (zq own') (by omega)) _ hD rfl,(zq hi').bel.grown (grownBy_putObj' W _ _) (zq hi').bel.size (fun k hk=>by cases hk;simp;omega)⟩
end Go.Proofs.YtcblkmlcbedomaaGreatDoor

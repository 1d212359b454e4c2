/- Parts of the proof that stand ahead of it (R 4). -/
import Derived.BigQuiet
import Derived.Test.YtcblkmlcbedomaaGreatDoorRM1
import Derived.Test.YtcblkmlcbedomaaGreatDoorRM3
set_option linter.unusedVariables false
set_option linter.unusedSimpArgs false
set_option maxRecDepth 20000
set_option maxHeartbeats 16000000
namespace Go.Proofs.YtcblkmlcbedomaaGreatDoor.K
open Go.RowKit
def QR (w:World) (base g n c:Nat) (l:List Int):Prop:=w.ownsRow base 3 1 (.slice (some ⟨g,0,none⟩) n c) n (l.map (Value.int .i64))
theorem QR.len {w:World} {base g n c:Nat} {l:List Int} (h:QR w base g n c l):l.length=n:=by
 have:=h.1;simpa using this
theorem QR.le {w:World} {base g n c:Nat} {l:List Int} (h:QR w base g n c l):n≤9223372036854775807∧g<w.heap.size:=by
 rcases h.2 with ⟨e,_⟩|⟨g',cap,cur,e,_,hg,h1,h2,_⟩
 ·cases e
 ·injection e with e1 e2 e3
  injection e1 with e1
  injection e1 with e1
  subst e1;subst e3
  unfold maxLen at h2
  exact⟨by omega,(Array.getElem?_eq_some_iff.1 hg).1⟩
theorem QR.at {w:World} {base g n c:Nat} {l:List Int} (h:QR w base g n c l) {i:Nat} (hi:i<n):w.cell? ⟨g,i,none⟩=some (.int .i64 (l.getD i 0)):=by
 have hl:=h.len
 rw[World.ownsRow.cellAt h i (by omega),List.getElem?_map,List.getD_eq_getElem?_getD,List.getElem?_eq_getElem (by omega)];rfl
theorem QR.fz {w:World} {base g n c:Nat} {l:List Int} (h:QR w base g n c l) (i:Nat):w.frozen? ⟨g,i,none⟩=false:=World.ownsRow.frozenAt h i
theorem QR.set {w:World} {base g n c:Nat} {l:List Int} (h:QR w base g n c l) (i:Nat) (x:Int):QR (w.setCell ⟨g,i,none⟩ (.int .i64 x)) base g n c (l.set i x)∧w.grownBy (w.setCell ⟨g,i,none⟩ (.int .i64 x)) (some g):=by
 obtain⟨h1,h2⟩:=World.ownsRow.stored h i (.int .i64 x)
 refine⟨?_,h2⟩
 unfold QR
 rw[List.map_set];exact h1
theorem qLen_l (a:Option Addr) (n c:Nat) (w:World):Calls Tryz.prog 74 #[.slice a n c] w fun e w'=>e= .returned (.int .i64 (n:Int))∧w'=w:=by
 go_enter Tryz.func74,Tryz.ntmps74
 go_wp2_with fail
 go_ret
 exact⟨rfl,rfl⟩
theorem qLess_l (base g n c i j:Nat) (l:List Int) (w:World) (h:QR w base g n c l) (hi:i<n) (hj:j<n):
  Calls Tryz.prog 288 #[.slice (some ⟨g,0,none⟩) n c,.int .i64 (i:Int),.int .i64 (j:Int)] w fun e w'=>e= .returned (.bool (decide (l.getD i 0<l.getD j 0)))∧∃k,w'=w.drewN k:=by
 have hn:=h.le.1
 have c1:∀d,(w.drewN d).cell? ⟨g,i,none⟩=some (.int .i64 (l.getD i 0)):=fun d=>h.at hi
 have c2:∀d,(w.drewN d).cell? ⟨g,j,none⟩=some (.int .i64 (l.getD j 0)):=fun d=>h.at hj
 clear h
 generalize l.getD i 0=x at*
 generalize l.getD j 0=y at*
 go_enter Tryz.func288,Tryz.ntmps288
 go_wp2_with fail
 go_quiet (fail)
 go_wp2_with fail
 go_ret
 exact⟨rfl,_,rfl⟩
theorem qSwap_l (base g n c i j:Nat) (l:List Int) (w:World) (h:QR w base g n c l) (hi:i<n) (hj:j<n):
  Calls Tryz.prog 289 #[.slice (some ⟨g,0,none⟩) n c,.int .i64 (i:Int),.int .i64 (j:Int)] w fun e w'=>e= .returned (.tuple #[])∧QR w' base g n c (swp l i j)∧w.grownBy w' (some g):=by
 have hn:=h.le.1
 have c1:w.cell? ⟨g,i,none⟩=some (.int .i64 (l.getD i 0)):=h.at hi
 have c2:w.cell? ⟨g,j,none⟩=some (.int .i64 (l.getD j 0)):=h.at hj
 have z1:w.frozen? ⟨g,i,none⟩=false:=h.fz i
 have z2:w.frozen? ⟨g,j,none⟩=false:=h.fz j
 obtain⟨h1,k1⟩:=h.set i (l.getD j 0)
 have c3:(w.setCell ⟨g,i,none⟩ (.int .i64 (l.getD j 0))).cell? ⟨g,j,none⟩=some (.int .i64 ((l.set i (l.getD j 0)).getD j 0)):=h1.at hj
 have z3:(w.setCell ⟨g,i,none⟩ (.int .i64 (l.getD j 0))).frozen? ⟨g,j,none⟩=false:=h1.fz j
 obtain⟨h2,k2⟩:=h1.set j (l.getD i 0)
 have FIN:Hid (QR ((w.setCell ⟨g,i,none⟩ (.int .i64 (l.getD j 0))).setCell ⟨g,j,none⟩ (.int .i64 (l.getD i 0))).drew base g n c (swp l i j)∧w.grownBy ((w.setCell ⟨g,i,none⟩ (.int .i64 (l.getD j 0))).setCell ⟨g,j,none⟩ (.int .i64 (l.getD i 0))).drew (some g)):=
  ⟨h2,(World.grownBy.trans k1 k2).os,(World.grownBy.trans k1 k2).tape,(World.grownBy.trans k1 k2).output,(World.grownBy.trans k1 k2).size,(World.grownBy.trans k1 k2).block⟩
 clear h h1 h2 k1 k2
 generalize (l.set i (l.getD j 0)).getD j 0=z at*
 generalize hx:l.getD i 0=x at*
 generalize hy:l.getD j 0=y at*
 clear hx hy
 go_enter Tryz.func289,Tryz.ntmps289
 go_wp2_with fail
 go_region
 go_wp2_with fail
 refine bodyPost_end (results_none rfl _ _ _) rfl ?_
 exact⟨rfl,zq FIN⟩
theorem mLen0 (b:Nat) (W:World):(method 400 70 (.pointer (some ⟨b,2,none⟩)) "Len").run Tryz.prog W=
  (match W.cell? ⟨b,2,none⟩with|some v=>Result.ok (74,v) W|none=>match W.farLoad Tryz.prog ⟨b,2,none⟩ false with| .ok (v,_)=>Result.ok (74,v) W| .error h=>Result.halt h W):=by kernel_rfl
theorem mLen {b:Nat} {W:World} {v:Value} (h:W.cell? ⟨b,2,none⟩=some v):(method 400 70 (.pointer (some ⟨b,2,none⟩)) "Len").run Tryz.prog W= .ok (74,v) W:=by
 rw[mLen0,h]
theorem mLess0 (b:Nat) (W:World):(method 400 70 (.pointer (some ⟨b,2,none⟩)) "Less").run Tryz.prog W=
  (match W.cell? ⟨b,2,none⟩with|some v=>Result.ok (288,v) W|none=>match W.farLoad Tryz.prog ⟨b,2,none⟩ false with| .ok (v,_)=>Result.ok (288,v) W| .error h=>Result.halt h W):=by kernel_rfl
theorem mLess {b:Nat} {W:World} {v:Value} (h:W.cell? ⟨b,2,none⟩=some v):(method 400 70 (.pointer (some ⟨b,2,none⟩)) "Less").run Tryz.prog W= .ok (288,v) W:=by
 rw[mLess0,h]
theorem mSwap0 (b:Nat) (W:World):(method 400 70 (.pointer (some ⟨b,2,none⟩)) "Swap").run Tryz.prog W=
  (match W.cell? ⟨b,2,none⟩with|some v=>Result.ok (289,v) W|none=>match W.farLoad Tryz.prog ⟨b,2,none⟩ false with| .ok (v,_)=>Result.ok (289,v) W| .error h=>Result.halt h W):=by kernel_rfl
theorem mSwap {b:Nat} {W:World} {v:Value} (h:W.cell? ⟨b,2,none⟩=some v):(method 400 70 (.pointer (some ⟨b,2,none⟩)) "Swap").run Tryz.prog W= .ok (289,v) W:=by
 rw[mSwap0,h]
theorem mPush (b:Nat) (W:World):(method 400 70 (.pointer (some ⟨b,2,none⟩)) "Push").run Tryz.prog W= .ok (291,.pointer (some ⟨b,2,none⟩)) W:=by kernel_rfl
abbrev qh (b:Nat):Value:= .iface 70 (.pointer (some ⟨b,2,none⟩))
def Tnd (w w':World) (base g n c:Nat) (l l':List Int):Prop:=l'.Perm l∧QR w' base g n c l'∧w.grownBy w' (some g)
theorem Tnd.refl {w:World} {base g n c:Nat} {l:List Int} (h:QR w base g n c l):Tnd w w base g n c l l:=⟨List.Perm.refl _,h,rfl,rfl,rfl,Nat.le_refl _,fun _ _ _=>rfl⟩
theorem Tnd.draws {w w':World} {base g n c:Nat} {l l':List Int} (h:Tnd w w' base g n c l l') (k:Nat):Tnd w (w'.drewN k) base g n c l l':=⟨h.1,h.2.1,h.2.2.os,h.2.2.tape,h.2.2.output,h.2.2.size,h.2.2.block⟩
theorem Tnd.swap {w w' w2:World} {base g n c:Nat} {l l':List Int} {i j:Nat} (h:Tnd w w' base g n c l l') (hi:i<n) (hj:j<n) (k:QR w2 base g n c (swp l' i j)) (kg:w'.grownBy w2 (some g)):Tnd w w2 base g n c l (swp l' i j):=
 ⟨(swp_perm (by rw[h.2.1.len];exact hi) (by rw[h.2.1.len];exact hj)).trans h.1,k,World.grownBy.trans h.2.2 kg⟩
theorem Tnd.cell {w w':World} {base g n c:Nat} {l l':List Int} (h:Tnd w w' base g n c l l') {a:Addr} {v:Value} (ha:w.cell? a=some v) (hg:a.block≠g):w'.cell? a=some v:=
 h.2.2.cell ha (fun e=>hg (Option.some.inj e))
theorem up_l (b base g n c j:Nat) (l:List Int) (w:World) (hc:w.cell? ⟨b,2,none⟩=some (.slice (some ⟨g,0,none⟩) n c)) (hbg:b≠g) (h:QR w base g n c l) (hn:n≤1000000) (hj:j<n) (hu:UpI l j):
  Calls Tryz.prog 165 #[qh b,.int .i64 (j:Int)] w fun e w'=>e= .returned (.tuple #[])∧∃l',Hp l'∧Tnd w w' base g n c l l':=by
 have CL:=zk (fun i j l w h hi hj=>qLess_l base g n c i j l w h hi hj)
 have CS:=zk (fun i j l w h hi hj=>qSwap_l base g n c i j l w h hi hj)
 have HC:=zk hc
 have T0:=zk (Tnd.refl h)
 have HU:=zk hu
 clear h hu hc
 go_enter Tryz.func165,Tryz.ntmps165
 go_wp2_with fail
 go_loopw [1] (fun v wr=>∃(k:Nat) (l':List Int),v= .int .i64 (k:Int)∧k<n∧Hid (UpI l' k)∧Hid (Tnd w wr base g n c l l')) (fun v _=>(intOf v).toNat)
 case atStart=>exact⟨j,l,rfl,hj,HU,T0⟩
 case round=>
  obtain⟨k,l',rfl,hk,hU,hT⟩:=hrel
  have cc:=(zq hT).cell (zq HC) hbg
  have hl:=(zq hT).2.1.len
  rcases Nat.eq_zero_or_pos k with h0|h0
  ·subst h0
   have FIN:=zk (UpI.stop (zq hU) (.inl rfl))
   clear hU hl
   go_wp2_with fail
   refine bodyPost_end (results_none rfl _ _ _) rfl ?_
   exact⟨rfl,l',zq FIN,zq hT⟩
  ·obtain⟨i,hi⟩:∃i:Nat,(k-1)/2=i:=⟨_,rfl⟩
   have hik:i<k:=by omega
   have e1:((k:Int)-1)/2=(i:Int):=by omega
   have be:((i:Int)==(k:Int))=false:=beq_eq_false_iff_ne.2 (by omega)
   have CL1:=zk (zq CL k i l' wr (zq hT).2.1 hk (by omega))
   have CS1:=zk (fun W q=>zq CS i k l' W q (by omega) hk)
   have h1:(1:Int)≤(k:Int):=by omega
   by_cases hlt:l'.getD k 0<l'.getD i 0
   ·have hd:decide (l'.getD k 0<l'.getD i 0)=true:=decide_eq_true hlt
    rw[hd]at CL1
    have NX:Hid (UpI (swp l' i k) i):=by
     have:=UpI.step (zq hU) (by omega) h0 (by rw[hi];exact hlt)
     rw[hi]at this;exact this
    clear hU hl hd hlt CL CS
    have HI:=zk hi
    clear hi
    have mL:=mLess cc
    go_wp2_with fail
    refine(zq CL1).mono ?_
    rintro e w1 ⟨rfl,q,rfl⟩
    clear mL
    have T1:=zk ((zq hT).draws q)
    have c1:=(zq T1).cell (zq HC) hbg
    clear CL1 hT cc
    generalize hW:wr.drewN q=W1 at*
    clear hW
    have mS:=mSwap c1
    go_wp2_with fail
    refine(zq CS1 _ (zq T1).2.1).mono ?_
    rintro e w2 ⟨rfl,q2,g2⟩
    have T2:=zk ((zq T1).swap (show i<n by omega) hk q2 g2)
    clear T1 c1 CS1 q2 g2
    go_wp2_with fail
    exact⟨⟨i,_,rfl,by omega,NX,T2⟩,by simp[intOf];omega⟩
   ·have hd:decide (l'.getD k 0<l'.getD i 0)=false:=decide_eq_false hlt
    rw[hd]at CL1
    have FIN:Hid (Hp l'):=UpI.stop (zq hU) (.inr (by rw[hi];exact hlt))
    clear hU hl hd hlt CL CS CS1
    have HI:=zk hi
    clear hi
    have mL:=mLess cc
    go_wp2_with fail
    refine(zq CL1).mono ?_
    rintro e w1 ⟨rfl,q,rfl⟩
    go_wp2_with fail
    refine bodyPost_end (results_none rfl _ _ _) rfl ?_
    exact⟨rfl,l',zq FIN,(zq hT).draws q⟩
end Go.Proofs.YtcblkmlcbedomaaGreatDoor.K

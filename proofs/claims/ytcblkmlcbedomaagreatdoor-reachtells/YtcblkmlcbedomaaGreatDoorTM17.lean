/- Parts of the proof that stand ahead of it (T 17). -/
import Derived.Test.YtcblkmlcbedomaaGreatDoorTM16
import Derived.Test.YtcblkmlcbedomaaGreatDoorTM9
set_option linter.unusedVariables false
set_option linter.unusedSimpArgs false
set_option maxRecDepth 20000
set_option maxHeartbeats 16000000
namespace Go.Proofs.YtcblkmlcbedomaaGreatDoor.T
open Go.RowKit
def clsB (r:Int):Bool:=decide (r=91∨r=93∨r=94∨r=45∨r=92)
theorem st_five:St ⟨#[91,93,94,45,92]⟩ [91,93,94,45,92]:=⟨rfl,by intro z hz;simp at hz;omega⟩
theorem ix_none:∀(l:List UInt8) (c:UInt8),(∀x∈l,x≠c)→Lib.indexByte l c= -1:=by
 intro l c
 induction l with
 |nil=>intro _;rfl
 |cons b t ih=>
  intro h
  have h1:=h b (List.mem_cons_self ..)
  have h2:=ih fun x hx=>h x (List.mem_cons_of_mem _ hx)
  unfold Lib.indexByte
  rw[h2]
  simp[h1]
theorem ix_five:∀n:Fin 128,decide (0≤Lib.indexByte [91,93,94,45,92] (n.val:Int).toNat.toUInt8)=clsB (n.val:Int):=by decide+kernel
theorem ix_five' {z:Int} (h0:0≤z) (h1:z<128):decide (0≤Lib.indexByte [91,93,94,45,92] z.toNat.toUInt8)=clsB z:=by
 have:=ix_five ⟨z.toNat,by omega⟩
 simp only[Int.toNat_of_nonneg h0]at this
 exact this
theorem ixByte_any (b:ByteArray) (c:Int) (W:World):Calls Tryz.prog 260 #[.string b,.int .u8 c] W fun e w'=>e= .returned (.int .i64 (Lib.indexByte b.data.toList c.toNat.toUInt8))∧w'=W:=
 Any.strings_IndexByte ixByte_lays b c W
theorem ixByte_hi (b:ByteArray) (hb:b.data.toList.all (fun x=>decide (x.toNat<128))=true) (c:Int) (h0:128≤c) (h1:c≤255) (W:World):Calls Tryz.prog 260 #[.string b,.int .u8 c] W fun e w'=>e= .returned (.int .i64 (-1))∧w'=W:=by
 have:=ixByte_any b c W
 rw[ix_none _ _ (fun x hx e=>by
  have h:=List.all_eq_true.1 hb x hx
  rw[decide_eq_true_eq]at h
  rw[e]at h
  have:(c.toNat.toUInt8).toNat=c.toNat%256:=by simp
  omega)]at this
 exact this
theorem enc_hi {r:Int} (h0:128≤r) (h1:U.zo r=true):∃(n:Nat) (c:Int),1≤n∧n≤3∧128≤c∧c≤255∧(Utf8.encode r).size=n+1∧∀W,(Instr.index 9 (.string (Utf8.encode r)) (.int .i64 (n:Int))).run Tryz.prog W= .ok (.int .u8 c) W:=by
 have hm:=(U.qQ r).1 h1
 have hv:Utf8.valid r=true:=by
  unfold Utf8.valid
  simp
  omega
 have key:∀(m:Nat) (a:List Int),U.zv a→Utf8.encode r=strOfNums a→a.length=m+1→1≤m→m≤3→128≤a.getD m 0→
   ∃(n:Nat) (c:Int),1≤n∧n≤3∧128≤c∧c≤255∧(Utf8.encode r).size=n+1∧∀W,(Instr.index 9 (.string (Utf8.encode r)) (.int .i64 (n:Int))).run Tryz.prog W= .ok (.int .u8 c) W:=by
  intro m a ha he hl hm1 hm2 hc
  have hs:St (Utf8.encode r) a:=⟨he,ha⟩
  exact⟨m,a.getD m 0,hm1,hm2,hc,(U.yv ha m).2,by rw[hs.size,hl],hs.ix (by omega)⟩
 have hr:r.toNat<1114112:=by omega
 by_cases c1:r.toNat<2048
 ·refine key 1 [((192+r.toNat/64:Nat):Int),((128+r.toNat%64:Nat):Int)] ?_ ?_ rfl (by omega) (by omega) (by show(128:Int)≤((128+r.toNat%64:Nat):Int);omega)
  ·intro z hz;simp at hz;omega
  ·unfold Utf8.encode
   simp only[hv,if_true]
   rw[if_neg (by omega),if_pos (by omega)]
   rfl
 ·by_cases c2:r.toNat<65536
  ·refine key 2 [((224+r.toNat/4096:Nat):Int),((128+r.toNat/64%64:Nat):Int),((128+r.toNat%64:Nat):Int)] ?_ ?_ rfl (by omega) (by omega) (by show(128:Int)≤((128+r.toNat%64:Nat):Int);omega)
   ·intro z hz;simp at hz;omega
   ·unfold Utf8.encode
    simp only[hv,if_true]
    rw[if_neg (by omega),if_neg (by omega),if_pos (by omega)]
    rfl
  ·refine key 3 [((240+r.toNat/262144:Nat):Int),((128+r.toNat/4096%64:Nat):Int),((128+r.toNat/64%64:Nat):Int),((128+r.toNat%64:Nat):Int)] ?_ ?_ rfl (by omega) (by omega) (by show(128:Int)≤((128+r.toNat%64:Nat):Int);omega)
   ·intro z hz;simp at hz;omega
   ·unfold Utf8.encode
    simp only[hv,if_true]
    rw[if_neg (by omega),if_neg (by omega),if_neg (by omega)]
    rfl
theorem validRune_l (r:Int) (hm:U.zo r=true) (w:World):Calls Tryz.prog 263 #[.int .i32 r] w fun e w'=>e= .returned (.bool true)∧w'=w:=by
 have h:=(U.qQ r).1 hm
 by_cases c:r<55296
 ·have c0:0≤r:=by omega
  clear h hm
  go_enter Tryz.func263,Tryz.ntmps263
  go_wp2
  go_ret
  exact⟨rfl,rfl⟩
 ·have c0:0≤r:=by omega
  have c1:57343<r:=by omega
  have c2:r≤1114111:=by omega
  clear h hm
  go_enter Tryz.func263,Tryz.ntmps263
  go_wp2
  go_ret
  exact⟨rfl,rfl⟩
theorem ixRune_low (r:Int) (h0:0≤r) (h1:r<128) (w:World):Calls Tryz.prog 248 #[.string ⟨#[91,93,94,45,92]⟩,.int .i32 r] w fun e w'=>(∃v:Int,e= .returned (.int .i64 v)∧decide (0≤v)=clsB r)∧Below w.heap.size w w':=by
 have C:=zk (fun W=>ixByte_any ⟨#[91,93,94,45,92]⟩ r W)
 have HC:=zk (ix_five' h0 h1)
 show Calls _ _ _ _ _
 go_enter Tryz.func248,Tryz.ntmps248
 go_wp2_with fail
 refine(zq C _).mono ?_
 rintro e w1 ⟨rfl,hw1⟩
 obtain rfl:w=w1:=hw1.symm
 clear hw1 C
 go_wp2_with fail
 go_ret
 exact⟨⟨_,rfl,zq HC⟩,Below.refl _ _⟩
theorem ixRune_hi (r:Int) (h0:128≤r) (hne:(r==65533)=false) (hm:U.zo r=true) (w:World):Calls Tryz.prog 248 #[.string ⟨#[91,93,94,45,92]⟩,.int .i32 r] w fun e w'=>e= .returned (.int .i64 (-1))∧Below w.heap.size w w':=by
 have CV:=zk (fun W=>validRune_l r hm W)
 have hr:=(U.qQ r).1 hm
 obtain⟨n,c,n1,n2,c0,c1,hsz,hix⟩:=enc_hi h0 hm
 have CI:=zk (fun b (hb:b.data.toList.all (fun x=>decide (x.toNat<128))=true) W=>ixByte_hi b hb c c0 c1 W)
 have cv:=fun W=>run_convert_int_string (P:=Tryz.prog) W 21 9 .i32 r (by rw[Tryz.underlying21];rfl) Tryz.underlying9
 have t1:¬r<128:=by omega
 have t2:0≤r:=by omega
 generalize Utf8.encode r=E at*
 clear hm hr
 have e1:n=1∨n=2∨n=3:=by omega
 rcases e1 with rfl|rfl|rfl
 ·have hix1:∀W,(Instr.index 9 (.string E) (.int .i64 1)).run Tryz.prog W= .ok (.int .u8 c) W:=hix
  have hs1:E.size=2:=hsz
  have hi5:∀W,(Instr.index 9 (.string ⟨#[91,93,94,45,92]⟩) (.int .i64 1)).run Tryz.prog W= .ok (.int .u8 93) W:=st_five.ix (k:=1) (by simp)
  have hs5:∀W,(Instr.slice 9 (.string ⟨#[91,93,94,45,92]⟩) (some (.int .i64 2)) none none).run Tryz.prog W= .ok (.string ⟨#[94,45,92]⟩) W:=st_five.tail (a:=2) (by simp)
  have t5:(((93:Int))==c)=false:=beq_eq_false_iff_ne.2 (by omega)
  have t6:=kQ 2 (by omega)
  have C1:=zk (zq CI ⟨#[94,45,92]⟩ (by decide))
  clear hix hsz n1 n2 CI
  go_enter Tryz.func248,Tryz.ntmps248
  go_wp2_with fail
  refine(zq CV _).mono ?_
  rintro e w1 ⟨rfl,hw1⟩
  obtain rfl:w=w1:=hw1.symm
  clear hw1 CV
  go_wp2_with fail
  go_step3
  go_wp2_with fail
  go_loopw [9,10] (fun u v wr=>u= .int .i64 1∧v= .int .i64 0∧wr=w) (fun _ _ _=>0)
  case atStart=>exact⟨by go_num,rfl,by trivial⟩
  case round=>
   obtain⟨rfl,rfl,hww⟩:=hrel
   obtain rfl:wr=w:=hww
   go_wp2_with fail
   go_step3
   go_wp2_with fail
   go_quiet ((go_at_call 260;exact(zq C1 _).mono (fun _ _ h=>⟨h.1,_,h.2⟩)))
   go_wp2_with fail
   go_quiet ((go_at_call 260;exact(zq C1 _).mono (fun _ _ h=>⟨h.1,_,h.2⟩)))
   go_wp2_with fail
   simp+zetaDelta only[Exit.noGoto,Exit.inBlock,Exit.then]
   go_ret
   exact⟨rfl,zX⟩
 ·have hix1:∀W,(Instr.index 9 (.string E) (.int .i64 2)).run Tryz.prog W= .ok (.int .u8 c) W:=hix
  have hs1:E.size=3:=hsz
  have hi5:∀W,(Instr.index 9 (.string ⟨#[91,93,94,45,92]⟩) (.int .i64 2)).run Tryz.prog W= .ok (.int .u8 94) W:=st_five.ix (k:=2) (by simp)
  have hs5:∀W,(Instr.slice 9 (.string ⟨#[91,93,94,45,92]⟩) (some (.int .i64 3)) none none).run Tryz.prog W= .ok (.string ⟨#[45,92]⟩) W:=st_five.tail (a:=3) (by simp)
  have t5:(((94:Int))==c)=false:=beq_eq_false_iff_ne.2 (by omega)
  have t6:=kQ 3 (by omega)
  have C1:=zk (zq CI ⟨#[45,92]⟩ (by decide))
  clear hix hsz n1 n2 CI
  go_enter Tryz.func248,Tryz.ntmps248
  go_wp2_with fail
  refine(zq CV _).mono ?_
  rintro e w1 ⟨rfl,hw1⟩
  obtain rfl:w=w1:=hw1.symm
  clear hw1 CV
  go_wp2_with fail
  go_step3
  go_wp2_with fail
  go_loopw [9,10] (fun u v wr=>u= .int .i64 2∧v= .int .i64 0∧wr=w) (fun _ _ _=>0)
  case atStart=>exact⟨by go_num,rfl,by trivial⟩
  case round=>
   obtain⟨rfl,rfl,hww⟩:=hrel
   obtain rfl:wr=w:=hww
   go_wp2_with fail
   go_step3
   go_wp2_with fail
   go_quiet ((go_at_call 260;exact(zq C1 _).mono (fun _ _ h=>⟨h.1,_,h.2⟩)))
   go_wp2_with fail
   go_quiet ((go_at_call 260;exact(zq C1 _).mono (fun _ _ h=>⟨h.1,_,h.2⟩)))
   go_wp2_with fail
   simp+zetaDelta only[Exit.noGoto,Exit.inBlock,Exit.then]
   go_ret
   exact⟨rfl,zX⟩
 ·have hix1:∀W,(Instr.index 9 (.string E) (.int .i64 3)).run Tryz.prog W= .ok (.int .u8 c) W:=hix
  have hs1:E.size=4:=hsz
  have hi5:∀W,(Instr.index 9 (.string ⟨#[91,93,94,45,92]⟩) (.int .i64 3)).run Tryz.prog W= .ok (.int .u8 45) W:=st_five.ix (k:=3) (by simp)
  have hs5:∀W,(Instr.slice 9 (.string ⟨#[91,93,94,45,92]⟩) (some (.int .i64 4)) none none).run Tryz.prog W= .ok (.string ⟨#[92]⟩) W:=st_five.tail (a:=4) (by simp)
  have t5:(((45:Int))==c)=false:=beq_eq_false_iff_ne.2 (by omega)
  have t6:=kQ 4 (by omega)
  have C1:=zk (zq CI ⟨#[92]⟩ (by decide))
  clear hix hsz n1 n2 CI
  go_enter Tryz.func248,Tryz.ntmps248
  go_wp2_with fail
  refine(zq CV _).mono ?_
  rintro e w1 ⟨rfl,hw1⟩
  obtain rfl:w=w1:=hw1.symm
  clear hw1 CV
  go_wp2_with fail
  go_step3
  go_wp2_with fail
  go_loopw [9,10] (fun u v wr=>u= .int .i64 3∧v= .int .i64 0∧wr=w) (fun _ _ _=>0)
  case atStart=>exact⟨by go_num,rfl,by trivial⟩
  case round=>
   obtain⟨rfl,rfl,hww⟩:=hrel
   obtain rfl:wr=w:=hww
   go_wp2_with fail
   go_step3
   go_wp2_with fail
   go_quiet ((go_at_call 260;exact(zq C1 _).mono (fun _ _ h=>⟨h.1,_,h.2⟩)))
   go_wp2_with fail
   go_quiet ((go_at_call 260;exact(zq C1 _).mono (fun _ _ h=>⟨h.1,_,h.2⟩)))
   go_wp2_with fail
   simp+zetaDelta only[Exit.noGoto,Exit.inBlock,Exit.then]
   go_ret
   exact⟨rfl,zX⟩
theorem iter_below (w:World) (s:ByteArray) (k:Nat):Below w.heap.size w (w.iter s k):=(Below.refl _ _).alloc (Nat.le_refl _) _
theorem next_five {k:Nat} (h:k<5) (W:World):∃v:Int,0≤v∧v<128∧∀ty,(Instr.next (.pointer (some ⟨W.heap.size,0,none⟩)) true ty).run Tryz.prog (W.iter ⟨#[91,93,94,45,92]⟩ k)= .ok (.tuple #[.bool true,.int .i64 (k:Int),.int .i32 v]) (W.iter ⟨#[91,93,94,45,92]⟩ (k+1)):=by
 have key:∀n:Fin 5,(((⟨#[91,93,94,45,92]⟩:ByteArray)[n.val]'(by have:=n.isLt;exact this)).toNat<128):=by decide
 have hk:((⟨#[91,93,94,45,92]⟩:ByteArray)[k]'h).toNat<128:=key ⟨k,h⟩
 exact⟨_,Int.natCast_nonneg _,by omega,fun ty=>run_next_ascii W ⟨#[91,93,94,45,92]⟩ k ty h hk⟩
theorem ixRune_bad (w:World):Calls Tryz.prog 248 #[.string ⟨#[91,93,94,45,92]⟩,.int .i32 65533] w fun e w'=>e= .returned (.int .i64 (-1))∧Below w.heap.size w w':=by
 go_enter Tryz.func248,Tryz.ntmps248
 go_wp2_with fail
 go_loopw [] (fun wr=>∃k:Nat,k≤5∧wr=w.iter ⟨#[91,93,94,45,92]⟩ k) (fun wr=>5-wr.iterPos w.heap.size)
 case atStart=>exact⟨0,by omega,rfl⟩
 case round=>
  obtain⟨k,hk,rfl⟩:=hrel
  by_cases hlt:k<5
  ·obtain⟨v,v0,v1,hn⟩:=next_five hlt w
   have t1:(v==65533)=false:=beq_eq_false_iff_ne.2 (by omega)
   go_wp2_with fail
   go_roundw
   case rel=>exact⟨k+1,by omega,rfl⟩
   case measure=>rw[World.iterPos_iter,World.iterPos_iter];omega
  ·have hn:=fun ty=>run_next_end (P:=Tryz.prog) w ⟨#[91,93,94,45,92]⟩ k ty (by show¬k<5;exact hlt)
   obtain rfl:k=5:=by omega
   go_wp2_with fail
   go_ret
   exact⟨rfl,iter_below _ _ _⟩
theorem ixRune_any (r:Int) (h0:0≤r) (hm:U.zo r=true) (w:World):Calls Tryz.prog 248 #[.string ⟨#[91,93,94,45,92]⟩,.int .i32 r] w fun e w'=>(∃v:Int,e= .returned (.int .i64 v)∧decide (0≤v)=clsB r)∧Below w.heap.size w w':=by
 by_cases c:r<128
 ·exact ixRune_low r h0 c w
 ·have hc:decide ((0:Int)≤-1)=clsB r:=by
   have:clsB r=false:=by unfold clsB;rw[decide_eq_false_iff_not];omega
   rw[this];rfl
  by_cases c2:r=65533
  ·rw[c2]at hc⊢
   exact(ixRune_bad w).mono fun e w' h=>⟨⟨-1,h.1,hc⟩,h.2⟩
  ·exact(ixRune_hi r (by omega) (beq_eq_false_iff_ne.2 c2) hm w).mono fun e w' h=>⟨⟨-1,h.1,hc⟩,h.2⟩
theorem containsRune_l (r:Int) (h0:0≤r) (hm:U.zo r=true) (w:World):Calls Tryz.prog 235 #[.string ⟨#[91,93,94,45,92]⟩,.int .i32 r] w fun e w'=>e= .returned (.bool (clsB r))∧Below w.heap.size w w':=by
 have C:=zk (ixRune_any r h0 hm w)
 clear hm h0
 generalize clsB r=b at*
 go_enter Tryz.func235,Tryz.ntmps235
 go_wp2_with fail
 refine(zq C).mono ?_
 rintro e w1 ⟨⟨v,rfl,hv⟩,b1⟩
 subst hv
 clear C
 go_wp2_with fail
 go_ret
 exact⟨retB (by first|rfl|simp),b1⟩
def standB (r:Int):Bool:=decide (32≤r)&& !clsB r
theorem standsInClass_l (r:Int) (h:r= -1∨U.zo r=true) (w:World):Calls Tryz.prog 216 #[.int .i64 r] w fun e w'=>e= .returned (.bool (standB r))∧Below w.heap.size w w':=by
 by_cases c:32≤r
 ·have hm:U.zo r=true:=by rcases h with h|h;omega;exact h
  have hr:=(U.qQ r).1 hm
  have C:=zk (fun W=>containsRune_l r (by omega) hm W)
  have e:standB r= !clsB r:=by unfold standB;simp[c]
  rw[e]
  have i1:IntKind.i32.wrap r=r:=by rw[IntKind.wrap_i32];omega
  clear e hm h
  generalize clsB r=b at*
  go_enter Tryz.func216,Tryz.ntmps216
  go_wp2_with fail
  refine(zq C _).mono ?_
  rintro e w1 ⟨rfl,b1⟩
  clear C
  go_wp2_with fail
  go_ret
  exact⟨retB (by first|rfl|simp),b1⟩
 ·have e:standB r=false:=by unfold standB;simp[c]
  have c':r<32:=by omega
  rw[e]
  clear e h
  go_enter Tryz.func216,Tryz.ntmps216
  go_wp2_with fail
  go_ret
  exact⟨rfl,Below.refl _ _⟩
end Go.Proofs.YtcblkmlcbedomaaGreatDoor.T

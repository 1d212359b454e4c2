/- Parts of the proof that stand ahead of it (T 16). -/
import Derived.Test.YtcblkmlcbedomaaGreatDoorTM8
import Derived.Test.YtcblkmlcbedomaaGreatDoorTM13
import Derived.Test.YtcblkmlcbedomaaGreatDoorTM7
set_option linter.unusedVariables false
set_option linter.unusedSimpArgs false
set_option maxRecDepth 20000
set_option maxHeartbeats 16000000
namespace Go.Proofs.YtcblkmlcbedomaaGreatDoor.T
open Go.RowKit
theorem retB {a b:Bool} (h:a=b):Ending.returned (.bool a)= .returned (.bool b):=by rw[h]
theorem dig_ix:∀n:Fin 256,Lib.indexByte [48,49,50,51,52,53,54,55,56,57,97,98,99,100,101,102] (n.val:Int).toNat.toUInt8=xw (n.val:Int):=by decide+kernel
theorem dig_ix' {z:Int} (h0:0≤z) (h1:z≤255):Lib.indexByte [48,49,50,51,52,53,54,55,56,57,97,98,99,100,101,102] z.toNat.toUInt8=xw z:=by
 have:=dig_ix ⟨z.toNat,by omega⟩
 simp only[Int.toNat_of_nonneg h0]at this
 exact this
theorem digit_l (z:Int) (h0:0≤z) (h1:z≤255) (w:World):
  Calls Tryz.prog 240 #[.int .u8 z] w fun e w'=>e= .returned (.int .i64 (xw z))∧w'=w:=by
 have C:Calls Tryz.prog 260 #[.string ⟨#[48,49,50,51,52,53,54,55,56,57,97,98,99,100,101,102]⟩,.int .u8 z] w fun e w'=>e= .returned (.int .i64 (xw z))∧w'=w:=by
  have:=Any.strings_IndexByte ixByte_lays ⟨#[48,49,50,51,52,53,54,55,56,57,97,98,99,100,101,102]⟩ z w
  rw[←dig_ix' h0 h1]
  exact this
 have CH:=zk C
 clear C
 generalize xw z=v at*
 go_enter Tryz.func240,Tryz.ntmps240
 go_wp2_with fail
 refine(zq CH).mono ?_
 rintro e w1 ⟨rfl,hw1⟩
 obtain rfl:w=w1:=hw1.symm
 go_wp2_with fail
 go_ret
 exact⟨rfl,rfl⟩
theorem isLetter_l (z:Int) (h0:0≤z) (h1:z≤255) (w:World):
  Calls Tryz.prog 209 #[.int .u8 z] w fun e w'=>e= .returned (.bool (xi z))∧w'=w:=by
 by_cases c1:97≤z
 ·by_cases c2:z≤122
  ·have e:xi z=true:=by simp[xi,c1,c2]
   rw[e]
   go_enter Tryz.func209,Tryz.ntmps209
   go_wp2
   go_ret
   exact⟨rfl,rfl⟩
  ·have e:xi z=false:=by simp[xi,c2]
   have c2':122<z:=by omega
   rw[e]
   go_enter Tryz.func209,Tryz.ntmps209
   go_wp2
   go_ret
   exact⟨rfl,rfl⟩
 ·have e:xi z=false:=by simp[xi,c1]
  have c1':z<97:=by omega
  rw[e]
  go_enter Tryz.func209,Tryz.ntmps209
  go_wp2
  go_ret
  exact⟨rfl,rfl⟩
def seenB (z:Int):Bool:=decide (32≤z)&&decide (z≤126)
theorem isSeen_l (z:Int) (h0: -9223372036854775808≤z) (h1:z≤9223372036854775807) (w:World):
  Calls Tryz.prog 231 #[.int .i64 z] w fun e w'=>e= .returned (.bool (seenB z))∧w'=w:=by
 by_cases c1:32≤z
 ·by_cases c2:z≤126
  ·have e:seenB z=true:=by simp[seenB,c1,c2]
   rw[e]
   go_enter Tryz.func231,Tryz.ntmps231
   go_wp2
   go_ret
   exact⟨rfl,rfl⟩
  ·have e:seenB z=false:=by simp[seenB,c2]
   have c2':126<z:=by omega
   rw[e]
   go_enter Tryz.func231,Tryz.ntmps231
   go_wp2
   go_ret
   exact⟨rfl,rfl⟩
 ·have e:seenB z=false:=by simp[seenB,c1]
  have c1':z<32:=by omega
  rw[e]
  go_enter Tryz.func231,Tryz.ntmps231
  go_wp2
  go_ret
  exact⟨rfl,rfl⟩
theorem isNameByte_l (z:Int) (h0:0≤z) (h1:z≤255) (w:World):
  Calls Tryz.prog 210 #[.int .u8 z] w fun e w'=>e= .returned (.bool (isW z))∧w'=w:=by
 have CL:=zk (isLetter_l z h0 h1)
 cases hL:xi z with
 |true=>
  have e:isW z=true:=by simp[isW,hL]
  rw[e]
  rw[hL]at CL
  clear hL e
  go_enter Tryz.func210,Tryz.ntmps210
  go_wp2_with fail
  refine(zq CL _).mono ?_
  rintro e w1 ⟨rfl,hw1⟩
  obtain rfl:w=w1:=hw1.symm
  go_wp2_with fail
  go_ret
  exact⟨retB (by first|rfl|(simp;omega)|(simp;done)),rfl⟩
 |false=>
  rw[hL]at CL
  by_cases c1:48≤z
  ·by_cases c2:z≤57
   ·have e:isW z=true:=by simp[isW,isDig,c1,c2]
    rw[e]
    clear hL e
    go_enter Tryz.func210,Tryz.ntmps210
    go_wp2_with fail
    refine(zq CL _).mono ?_
    rintro e w1 ⟨rfl,hw1⟩
    obtain rfl:w=w1:=hw1.symm
    go_wp2_with fail
    go_ret
    exact⟨retB (by first|rfl|(simp;omega)|(simp;done)),rfl⟩
   ·have c2':57<z:=by omega
    by_cases c3:z=95
    ·have e:isW z=true:=by simp[isW,c3]
     rw[e]
     clear hL e
     subst c3
     go_enter Tryz.func210,Tryz.ntmps210
     go_wp2_with fail
     refine(zq CL _).mono ?_
     rintro e w1 ⟨rfl,hw1⟩
     obtain rfl:w=w1:=hw1.symm
     go_wp2_with fail
     go_ret
     exact⟨retB (by first|rfl|(simp;omega)|(simp;done)),rfl⟩
    ·have e:isW z=false:=by simp[isW,hL,isDig,c2,c3]
     have c3':(z==95)=false:=beq_eq_false_iff_ne.2 c3
     rw[e]
     clear hL e
     go_enter Tryz.func210,Tryz.ntmps210
     go_wp2_with fail
     refine(zq CL _).mono ?_
     rintro e w1 ⟨rfl,hw1⟩
     obtain rfl:w=w1:=hw1.symm
     go_wp2_with fail
     go_ret
     exact⟨retB (by first|rfl|(simp;omega)|(simp;done)),rfl⟩
  ·have c1':z<48:=by omega
   have c3':(z==95)=false:=beq_eq_false_iff_ne.2 (by omega)
   have e:isW z=false:=by simp[isW,hL,isDig,c1];omega
   rw[e]
   clear hL e
   go_enter Tryz.func210,Tryz.ntmps210
   go_wp2_with fail
   refine(zq CL _).mono ?_
   rintro e w1 ⟨rfl,hw1⟩
   obtain rfl:w=w1:=hw1.symm
   go_wp2_with fail
   go_ret
   exact⟨retB (by first|rfl|(simp;omega)|(simp;done)),rfl⟩
theorem standsInLit_l (z:Int) (h0:0≤z) (h1:z≤255) (w:World):
  Calls Tryz.prog 211 #[.int .u8 z] w fun e w'=>e= .returned (.bool (rawB z))∧w'=w:=by
 have CL:=zk (isSeen_l z (by omega) (by omega))
 cases hL:seenB z with
 |true=>
  rw[hL]at CL
  have hb:32≤z∧z≤126:=by simpa [seenB] using hL
  by_cases c1:z=34
  ·have e:rawB z=false:=by simp[rawB,c1]
   rw[e]
   clear hL e hb
   subst c1
   go_enter Tryz.func211,Tryz.ntmps211
   go_wp2_with fail
   refine(zq CL _).mono ?_
   rintro e w1 ⟨rfl,hw1⟩
   obtain rfl:w=w1:=hw1.symm
   go_wp2_with fail
   go_ret
   exact⟨retB (by first|rfl|(simp;omega)|(simp;done)),rfl⟩
  ·have c1':(z==34)=false:=beq_eq_false_iff_ne.2 c1
   by_cases c2:z=92
   ·have e:rawB z=false:=by simp[rawB,c2]
    rw[e]
    clear hL e hb
    subst c2
    go_enter Tryz.func211,Tryz.ntmps211
    go_wp2_with fail
    refine(zq CL _).mono ?_
    rintro e w1 ⟨rfl,hw1⟩
    obtain rfl:w=w1:=hw1.symm
    go_wp2_with fail
    go_ret
    exact⟨retB (by first|rfl|(simp;omega)|(simp;done)),rfl⟩
   ·have c2':(z==92)=false:=beq_eq_false_iff_ne.2 c2
    have e:rawB z=true:=by simp[rawB];omega
    rw[e]
    clear hL e hb
    go_enter Tryz.func211,Tryz.ntmps211
    go_wp2_with fail
    refine(zq CL _).mono ?_
    rintro e w1 ⟨rfl,hw1⟩
    obtain rfl:w=w1:=hw1.symm
    go_wp2_with fail
    go_ret
    exact⟨retB (by first|rfl|(simp;omega)|(simp;done)),rfl⟩
 |false=>
  rw[hL]at CL
  have e:rawB z=false:=by
   simp[seenB]at hL
   simp[rawB]
   omega
  rw[e]
  clear hL e
  go_enter Tryz.func211,Tryz.ntmps211
  go_wp2_with fail
  refine(zq CL _).mono ?_
  rintro e w1 ⟨rfl,hw1⟩
  obtain rfl:w=w1:=hw1.symm
  go_wp2_with fail
  go_ret
  exact⟨retB (by first|rfl|(simp;omega)|(simp;done)),rfl⟩
def markL (l:List Int):Bool:=decide (l∈marks)
theorem st_list {s:ByteArray} {l:List Int} (h:St s l):∀(m:List Int),U.zv m→(s.toList=(m.map fun n=>UInt8.ofNat n.toNat)↔l=m):=by
 intro m hm
 rw[ByteArray.toList_eq]
 constructor
 ·intro e
  refine strOf_inj h.2 hm ?_
  rw[←h.1]
  cases hx:s with|mk x=>
   rw[hx]at e
   have:x=(m.map fun n=>UInt8.ofNat n.toNat).toArray:=by rw[←e]
   rw[this];rfl
 ·rintro rfl
  rw[h.1,strOfNums_data]
theorem isMark_l (s:ByteArray) (l:List Int) (h:St s l) (w:World):
  Calls Tryz.prog 183 #[.string s] w fun e w'=>e= .returned (.bool (markL l))∧w'=w:=by
 have key:=st_list h
 have k1:s.toList=[108,111,110,103]↔l=[108,111,110,103]:=key [108,111,110,103] (by intro z hz;simp at hz;omega)
 have k2:s.toList=[114,101,115]↔l=[114,101,115]:=key [114,101,115] (by intro z hz;simp at hz;omega)
 have k3:s.toList=[111,102,102]↔l=[111,102,102]:=key [111,102,102] (by intro z hz;simp at hz;omega)
 have k4:s.toList=[98,108,111,99,107]↔l=[98,108,111,99,107]:=key [98,108,111,99,107] (by intro z hz;simp at hz;omega)
 have k5:s.toList=[97,108,105,103,110]↔l=[97,108,105,103,110]:=key [97,108,105,103,110] (by intro z hz;simp at hz;omega)
 have k6:s.toList=[115,121,110,99]↔l=[115,121,110,99]:=key [115,121,110,99] (by intro z hz;simp at hz;omega)
 clear key h
 by_cases c1:l=[108,111,110,103]
 ·have d1:=k1.2 c1
  have e:markL l=true:=by rw[c1];decide
  rw[e]
  clear k1 k2 k3 k4 k5 k6 e c1
  go_enter Tryz.func183,Tryz.ntmps183
  go_wp2_with fail
  go_ret
  exact⟨rfl,rfl⟩
 ·have d1:¬s.toList=[108,111,110,103]:=fun x=>c1 (k1.1 x)
  clear k1
  by_cases c2:l=[114,101,115]
  ·have d2:=k2.2 c2
   have e:markL l=true:=by rw[c2];decide
   rw[e]
   clear k2 k3 k4 k5 k6 e c2
   go_enter Tryz.func183,Tryz.ntmps183
   go_wp2_with fail
   go_ret
   exact⟨rfl,rfl⟩
  ·have d2:¬s.toList=[114,101,115]:=fun x=>c2 (k2.1 x)
   clear k2
   by_cases c3:l=[111,102,102]
   ·have d3:=k3.2 c3
    have e:markL l=true:=by rw[c3];decide
    rw[e]
    clear k3 k4 k5 k6 e c3
    go_enter Tryz.func183,Tryz.ntmps183
    go_wp2_with fail
    go_ret
    exact⟨rfl,rfl⟩
   ·have d3:¬s.toList=[111,102,102]:=fun x=>c3 (k3.1 x)
    clear k3
    by_cases c4:l=[98,108,111,99,107]
    ·have d4:=k4.2 c4
     have e:markL l=true:=by rw[c4];decide
     rw[e]
     clear k4 k5 k6 e c4
     go_enter Tryz.func183,Tryz.ntmps183
     go_wp2_with fail
     go_ret
     exact⟨rfl,rfl⟩
    ·have d4:¬s.toList=[98,108,111,99,107]:=fun x=>c4 (k4.1 x)
     clear k4
     by_cases c5:l=[97,108,105,103,110]
     ·have d5:=k5.2 c5
      have e:markL l=true:=by rw[c5];decide
      rw[e]
      clear k5 k6 e c5
      go_enter Tryz.func183,Tryz.ntmps183
      go_wp2_with fail
      go_ret
      exact⟨rfl,rfl⟩
     ·have d5:¬s.toList=[97,108,105,103,110]:=fun x=>c5 (k5.1 x)
      clear k5
      by_cases c6:l=[115,121,110,99]
      ·have d6:=k6.2 c6
       have e:markL l=true:=by rw[c6];decide
       rw[e]
       clear k6 e c6
       go_enter Tryz.func183,Tryz.ntmps183
       go_wp2_with fail
       go_ret
       exact⟨rfl,rfl⟩
      ·have d6:¬s.toList=[115,121,110,99]:=fun x=>c6 (k6.1 x)
       clear k6
       have e:markL l=false:=by
        unfold markL marks
        simp[c1,c2,c3,c4,c5,c6]
       rw[e]
       clear e c1 c2 c3 c4 c5 c6
       have b1:=beq_eq_false_iff_ne.2 d1
       have b2:=beq_eq_false_iff_ne.2 d2
       have b3:=beq_eq_false_iff_ne.2 d3
       have b4:=beq_eq_false_iff_ne.2 d4
       have b5:=beq_eq_false_iff_ne.2 d5
       have b6:=beq_eq_false_iff_ne.2 d6
       go_enter Tryz.func183,Tryz.ntmps183
       go_wp2_with fail
       go_ret
       exact⟨rfl,rfl⟩
end Go.Proofs.YtcblkmlcbedomaaGreatDoor.T
/- Contracts of package token: what a tail begins by, its digits, its name. -/
namespace Go.Proofs.YtcblkmlcbedomaaGreatDoor.T
open Go.RowKit
theorem Bs.bytesIn {w:World} {a:Option Addr} {len cap:Nat} {l:List Int} (h:Bs w a len cap l):Lib.BytesIn w a len l:=by
 intro hp
 obtain⟨b,off,ha,hb⟩:=h.open hp
 exact⟨b,off,ha,hb.hcell⟩
def pre (p l:List Int):Bool:=decide (l.take p.length=p)
theorem pre_is {p l:List Int} (hp:U.zv p) (hl:U.zv l):Lib.hasPrefix (Lib.bytesOf l) (Lib.bytesOf p)=pre p l:=by
 unfold Lib.hasPrefix Lib.bytesOf pre
 induction p generalizing l with
 |nil=>simp
 |cons x p ih=>
  cases l with
  |nil=>simp[List.isPrefixOf]
  |cons y l=>
   have hx:=hp x (List.mem_cons_self ..)
   have hy:=hl y (List.mem_cons_self ..)
   have:=ih (l:=l) (fun z hz=>hp z (List.mem_cons_of_mem _ hz)) (fun z hz=>hl z (List.mem_cons_of_mem _ hz))
   rw[List.map_cons,List.map_cons,List.isPrefixOf,this,Bool.eq_iff_iff]
   simp only[Bool.and_eq_true,beq_iff_eq,decide_eq_true_eq,List.length_cons,List.take_succ_cons,List.cons.injEq]
   refine and_congr_left fun _=>⟨fun h=> ?_,fun h=>by rw[h]⟩
   have:=congrArg UInt8.toNat h
   simp[UInt8.toNat_ofNat']at this
   omega
theorem bs_conv' (w:World) {s:ByteArray} {l:List Int} (h:St s l) (hl:l.length≤maxLen) (fr:Nat×Nat):
  Bs ((w.alloc (.cells (bytesRow s (grownCap w s.size 0 5)) 5 fr)).drew) (some ⟨w.heap.size,0,none⟩) s.size (grownCap w s.size 0 5) l:=bs_conv w h hl fr
theorem new_drew' {w:World} (o:Obj):Below w.heap.size w (w.alloc o).drew:=((Below.refl _ _).alloc (Nat.le_refl _) o).trans (zX (k:=1))
theorem jK (a:Option Addr) (len cap:Nat) (l:List Int) (w:World) (h:Bs w a len cap l) (s:ByteArray) (p:List Int) (hs:St s p) (hp:p.length≤1000):
  Calls Tryz.prog 185 #[.slice a len cap,.string s] w fun e w'=>e= .returned (.bool (pre p l))∧Below w.heap.size w w':=by
 have kc:=fun W=>run_bytes_of_string (P:=Tryz.prog) W 9 130 5 s Tryz.underlying9 Tryz.underlying130 Tryz.underlying5
 have hsz:=hs.size
 have BC:=zk (fun W fr=>bs_conv' W hs (by unfold maxLen;omega) fr)
 have CP:∀W x c,Bs W a len cap l→Bs W x s.size c p→Calls Tryz.prog 212 #[.slice a len cap,.slice x s.size c] W fun e w'=>e= .returned (.bool (pre p l))∧w'=W:=by
  intro W x c h1 h2
  have:=Any.bytes_HasPrefix_all hasPre_lays a x len cap s.size c l p W h1.hlen h2.hlen h1.hcap (Bs.bytesIn h1) (Bs.bytesIn h2)
  rw[pre_is hs.2 h1.hbytes]at this
  exact this
 have HB:=zk h
 have CPH:=zk CP
 clear CP h hs hsz
 generalize pre p l=r at*
 go_enter Tryz.func185,Tryz.ntmps185
 go_wp2_with fail
 refine(zq CPH _ _ _ (Bs.later (zq HB) (new_drew' _) (Nat.le_refl _)) (zq BC _ _)).mono ?_
 rintro e w1 ⟨rfl,hw1⟩
 subst hw1
 go_wp2_with fail
 go_ret
 exact⟨rfl,new_drew' _⟩
theorem bat {w:World} {b off len cap:Nat} {l:List Int} (h:Bb w b off len cap l) (k:Nat) (hk:k<len):
  ∃z,l.getD k 0=z∧0≤z∧z≤255∧w.cell? ⟨b,off+k,none⟩=some (.int .u8 z):=
 ⟨_,rfl,(U.yv h.hbytes k).1,(U.yv h.hbytes k).2,h.hcell k hk⟩
theorem ret_two {a b c d:Int} (h:a=c) (h2:b=d):Ending.returned (.tuple #[.int .i64 a,.int .i64 b])= .returned (.tuple #[.int .i64 c,.int .i64 d]):=by rw[h,h2]
theorem bnd_pow {j:Nat} (h:j≤6):0≤bnd j∧bnd j≤16777215:=bnd_le j (by omega)
theorem number_l (a:Option Addr) (len cap:Nat) (l:List Int) (w:World) (h:Bs w a len cap l) (hl:len≤1000000) (M:Nat) (hM:M≤6):
  Calls Tryz.prog 223 #[.slice a len cap,.int .i64 M] w fun e w'=>e= .returned (.tuple #[.int .i64 (yi M 0 l).1,.int .i64 ((yi M 0 l).2:Nat)])∧w'=w:=by
 have CD:=zk digit_l
 have hlen:=h.hlen
 have HB:=zk h
 clear h
 go_enter Tryz.func223,Tryz.ntmps223
 go_wp2_with fail
 go_loopw [6,7] (fun u q wr=>∃(v:Int) (j:Nat),j≤M∧j≤len∧0≤v∧v≤bnd j∧u= .int .i64 v∧q= .int .i64 (j:Int)∧Hid (yi M 0 l=((yi (M-j) v (l.drop j)).1,(yi (M-j) v (l.drop j)).2+j))∧wr=w) (fun _ q _=>len-(intOf q).toNat)
 case atStart=>exact⟨0,0,by omega,by omega,by omega,by decide,rfl,rfl,rfl,by trivial⟩
 case round=>
  obtain⟨v,j,hj,hjl,v0,v1,rfl,rfl,hg,hww⟩:=hrel
  obtain rfl:wr=w:=hww
  have hbj:=bnd_pow (j:=j) (by omega)
  by_cases i1:j<len
  ·by_cases i2:j<M
   ·obtain⟨b,off,rfl,hb⟩:=(zq HB).open (by omega)
    obtain⟨z,hz,z0,z1,cz⟩:=bat hb j i1
    have vr:=ke z
    have C1:=zk (zq CD z z0 z1)
    by_cases i3:0≤xw z
    ·have dy:=dig_yes (m:=M-(j+1)) (v:=v) (l:=l) (k:=j) (by omega) (by rw[hz];exact i3)
     rw[show M-(j+1)+1=M-j by omega,hz]at dy
     have hg2:Hid (yi M 0 l=((yi (M-(j+1)) (16*v+xw z) (l.drop (j+1))).1,(yi (M-(j+1)) (16*v+xw z) (l.drop (j+1))).2+(j+1))):=by
      show _=_
      rw[hg.out,dy]
      simp only[Prod.mk.injEq,true_and]
      omega
     have hb2:16*v+xw z≤bnd (j+1):=by
      show _≤16*bnd j+15
      omega
     clear CD HB hb dy hg hz
     generalize xw z=d at*
     have t1:¬d<0:=by omega
     go_wp2_with fail
     refine(zq C1 _).mono ?_
     rintro e w1 ⟨rfl,hw1⟩
     obtain rfl:wr=w1:=hw1.symm
     clear hw1 C1
     go_wp2_with fail
     go_roundw
     case rel=>exact⟨16*v+d,j+1,by omega,by omega,by omega,hb2,by go_num,by go_num,hg2,by trivial⟩
     case measure=>simp[intOf];omega
    ·have dn:=dig_no (m:=M-j) (v:=v) (l:=l) (k:=j) (by rw[hz];omega)
     have hg2:yi M 0 l=(v,j):=by
      rw[hg.out,dn]
      simp only[Nat.zero_add]
     clear CD HB hb dn hg hz
     have HG:=zk hg2
     clear hg2
     generalize xw z=d at*
     have t1:d<0:=by omega
     go_wp2_with fail
     refine(zq C1 _).mono ?_
     rintro e w1 ⟨rfl,hw1⟩
     obtain rfl:wr=w1:=hw1.symm
     clear hw1 C1
     go_wp2_with fail
     go_ret2
     exact⟨ret_two (by rw[zq HG]) (by rw[zq HG]),rfl⟩
   ·have hg2:yi M 0 l=(v,j):=by
     rw[hg.out,show M-j=0 by omega]
     simp only[yi,Nat.zero_add]
    clear CD HB hg
    have HG:=zk hg2
    clear hg2
    obtain rfl:j=M:=by omega
    go_wp2_with fail
    go_ret2
    exact⟨ret_two (by rw[zq HG]) (by rw[zq HG]),rfl⟩
  ·have hg2:yi M 0 l=(v,j):=by
    rw[hg.out,dig_over (by omega)]
    simp only[Nat.zero_add]
   clear CD HB hg
   have HG:=zk hg2
   clear hg2
   obtain rfl:j=len:=by omega
   go_wp2_with fail
   go_ret2
   exact⟨ret_two (by rw[zq HG]) (by rw[zq HG]),rfl⟩
/-! ### HEXes -/
theorem dig_two (l:List Int):jy (ja true l)=if (yi 2 0 l).2<2 then (0,0)else ((yi 2 0 l).1,(yi 2 0 l).2):=by
 unfold ja ZZ jy
 simp only[if_true]
 have zz:xw 0= -1:=by decide
 match l with
 | []=>simp[yi,List.getD,zz]
 | [x]=>
  have:=ke x
  by_cases h:0≤xw x
  ·simp[yi,List.getD,zz,h]
  ·simp[yi,List.getD,zz,h]
 |x::y::t=>
  have h1:=ke x
  have h2:=ke y
  by_cases h:0≤xw x
  ·by_cases h':0≤xw y
   ·have e:¬(xw x<0∨xw y<0):=by omega
    have e2:¬(16*xw x+xw y<0):=by omega
    simp[yi,List.getD,h,h',e,e2]
   ·have e:(xw x<0∨xw y<0):=by omega
    simp[yi,List.getD,h,h',e]
  ·have e:(xw x<0∨xw y<0):=by omega
   simp[yi,List.getD,h,e]
theorem dig_bound:∀(m:Nat) (l:List Int) (v:Int),(yi m v l).2≤m∧(yi m v l).2≤l.length:=by
 intro m
 induction m with
 |zero=>intro l v;simp[yi]
 |succ m ih=>
  intro l v
  cases l with
  |nil=>simp[yi]
  |cons z t=>
   simp only[yi]
   split
   ·have:=ih t (16*v+xw z)
    simp only[List.length_cons]
    omega
   ·simp
theorem hex_l (a:Option Addr) (len cap:Nat) (l:List Int) (w:World) (h:Bs w a len cap l) (hl:len≤1000000):
  Calls Tryz.prog 191 #[.slice a len cap] w fun e w'=>e= .returned (.tuple #[.int .i64 (jy (ja true l)).1,.int .i64 ((jy (ja true l)).2:Nat)])∧w'=w:=by
 have C:=zk (number_l a len cap l w h hl 2 (by omega))
 have hd:=dig_bound 2 l 0
 rw[dig_two]
 clear h
 generalize (yi 2 0 l).1=x at*
 generalize (yi 2 0 l).2=n at*
 by_cases c:n<2
 ·rw[if_pos c]
  simp only
  go_enter Tryz.func191,Tryz.ntmps191
  go_wp2_with fail
  refine(zq C).mono ?_
  rintro e w1 ⟨rfl,hw1⟩
  obtain rfl:w=w1:=hw1.symm
  clear hw1 C
  go_wp2_with fail
  go_ret2
  exact⟨rfl,rfl⟩
 ·rw[if_neg c]
  obtain rfl:n=2:=by omega
  simp only
  go_enter Tryz.func191,Tryz.ntmps191
  go_wp2_with fail
  refine(zq C).mono ?_
  rintro e w1 ⟨rfl,hw1⟩
  obtain rfl:w=w1:=hw1.symm
  clear hw1 C
  go_wp2_with fail
  go_ret2
  exact⟨rfl,rfl⟩
end Go.Proofs.YtcblkmlcbedomaaGreatDoor.T
/- Contracts of package token: tails of tails, names, pieces. -/
namespace Go.Proofs.YtcblkmlcbedomaaGreatDoor.T
open Go.RowKit
/-! ### A tail, from a place on -/
def dropA (a:Option Addr) (cap k:Nat):Option Addr:=if cap=k then a else a.map (·.add k)
theorem xk (a:Option Addr) (len cap k:Nat) (i:Int) (hi:i=(k:Int)) (hk:k≤len):∀W,(Instr.slice 137 (.slice a len cap) (some (.int .i64 i)) none none).run Tryz.prog W= .ok (.slice (dropA a cap k) (len-k) (cap-k)) W:=by
 intro W
 subst hi
 have hu:Tryz.prog.underlying 137=some (.slice 5):=Tryz.underlying137
 unfold Instr.slice dropA
 simp[hu,run_underlying,Instr.sliceBounds,Instr.sliceBound,asIntOf,hk,Tryz.sizeOf5]
theorem Bs.dropA {w:World} {a:Option Addr} {len cap:Nat} {l:List Int} (h:Bs w a len cap l) (k:Nat) (hk:k≤len):Bs w (T.dropA a cap k) (len-k) (cap-k) (l.drop k):=by
 have h1:=h.hcap
 have h2:=h.hmax
 refine⟨by rw[List.length_drop,h.hlen],by omega,by omega,U.zZ h.hbytes k,fun i hi=> ?_⟩
 obtain⟨b,off,rfl,hc⟩:=h.hcell (k+i) (by omega)
 refine⟨b,off+k,?_,?_⟩
 ·unfold T.dropA
  rw[if_neg (by omega)]
  simp[Addr.add]
 ·rw[Nat.add_assoc,hc]
  simp[List.getD]
/-! ### Names -/
theorem nameBytes_l (a:Option Addr) (len cap:Nat) (l:List Int) (w:World) (h:Bs w a len cap l) (hl:len≤1000000):
  Calls Tryz.prog 182 #[.slice a len cap] w fun e w'=>e= .returned (.int .i64 (yY l:Nat))∧w'=w:=by
 have hlen:=h.hlen
 have CL:=zk isLetter_l
 have CN:=zk isNameByte_l
 by_cases h0:0<len
 ·obtain⟨b,off,rfl,hb⟩:=h.open (by omega)
  obtain⟨z,hz,z0,z1,cz⟩:=bat hb 0 h0
  rw[Nat.add_zero]at cz
  have C1:=zk (zq CL z z0 z1)
  by_cases hL:xi z=true
  ·have hw:yY l=vQ (l.drop 1)+1:=by unfold yY;rw[hz,if_pos hL]
   rw[hL]at C1
   have HW:=zk hw
   have HB:=zk hb
   have t0:((len:Int)==0)=false:=beq_eq_false_iff_ne.2 (by omega)
   clear h hb hw hL hz
   go_enter Tryz.func182,Tryz.ntmps182
   go_wp2_with fail
   refine(zq C1 _).mono ?_
   rintro e w1 ⟨rfl,hw1⟩
   obtain rfl:w=w1:=hw1.symm
   clear hw1 C1 cz
   go_wp2_with fail
   go_loopw [3] (fun u wr=>∃k:Nat,1≤k∧k≤len∧u= .int .i64 (k:Int)∧Hid (yY l=vQ (l.drop k)+k)∧wr=w) (fun u _=>len-(intOf u).toNat)
   case atStart=>exact⟨1,by omega,by omega,rfl,zq HW,by trivial⟩
   case round=>
    obtain⟨k,hk1,hk2,rfl,hg,hww⟩:=hrel
    obtain rfl:wr=w:=hww
    by_cases hlt:k<len
    ·obtain⟨y,hy,y0,y1,cy⟩:=bat (zq HB) k hlt
     have ta:=tail_at (l:=l) (k:=k) (by omega)
     rw[hy]at ta
     have C2:=zk (zq CN y y0 y1)
     cases hW:isW y with
     |true=>
      rw[hW]at ta C2
      simp only[if_true]at ta
      have hg2:Hid (yY l=vQ (l.drop (k+1))+(k+1)):=by
       show _=_
       rw[hg.out,ta]
       omega
      clear CL CN HW HB ta hg hW hy
      go_wp2_with fail
      refine(zq C2 _).mono ?_
      rintro e w1 ⟨rfl,hw1⟩
      obtain rfl:wr=w1:=hw1.symm
      clear hw1 C2
      go_wp2_with fail
      go_roundw
      case rel=>exact⟨k+1,by omega,by omega,by go_num,hg2,by trivial⟩
      case measure=>simp[intOf];omega
     |false=>
      rw[hW]at ta C2
      simp only[Bool.false_eq_true,if_false]at ta
      have HG:Hid (yY l=k):=by
       show _=_
       rw[hg.out,ta,Nat.zero_add]
      clear CL CN HW HB ta hg hW hy
      go_wp2_with fail
      refine(zq C2 _).mono ?_
      rintro e w1 ⟨rfl,hw1⟩
      obtain rfl:wr=w1:=hw1.symm
      clear hw1 C2
      go_wp2_with fail
      go_ret
      exact⟨by rw[zq HG];rfl,rfl⟩
    ·have HG:Hid (yY l=k):=by
      show _=_
      rw[hg.out,List.drop_of_length_le (by omega)]
      show 0+k=k
      omega
     clear CL CN HW HB hg
     obtain rfl:k=len:=by omega
     go_wp2_with fail
     go_ret
     exact⟨by rw[zq HG];rfl,rfl⟩
  ·have hL':xi z=false:=by simpa using hL
   have hw:yY l=0:=by unfold yY;rw[hz,if_neg hL]
   rw[hL']at C1
   rw[hw]
   clear h hb hw hL hL' hz
   go_enter Tryz.func182,Tryz.ntmps182
   go_wp2_with fail
   refine(zq C1 _).mono ?_
   rintro e w1 ⟨rfl,hw1⟩
   obtain rfl:w=w1:=hw1.symm
   clear hw1 C1 cz
   go_wp2_with fail
   go_ret
   exact⟨rfl,rfl⟩
 ·obtain rfl:len=0:=by omega
  obtain rfl:l=[]:=List.eq_nil_of_length_eq_zero hlen
  have hw:yY []=0:=by decide
  rw[hw]
  go_enter Tryz.func182,Tryz.ntmps182
  go_wp2_with fail
  go_ret
  exact⟨rfl,rfl⟩
/-! ### Pieces -/
def qK (l:List Int):Option (Int×Nat):=if l.getD 0 0=34 then none else jw l
theorem ret_bi {a b c d:Int} (h:a=c) (h2:b=d):Ending.returned (.tuple #[.int .u8 a,.int .i64 b])= .returned (.tuple #[.int .u8 c,.int .i64 d]):=by rw[h,h2]
theorem pre2 {x y:Int} {l:List Int} (hx:x≠0):pre [x,y] l=true→2≤l.length∧l.getD 0 0=x∧l.getD 1 0=y:=by
 intro h
 unfold pre at h
 rw[decide_eq_true_eq]at h
 match l,h with
 | [],h=>simp at h
 | [p],h=>simp at h
 |p::q::t,h=>simp at h;exact⟨by simp,by simp[h.1],by simp[h.2]⟩
theorem pre2' {x y:Int} {l:List Int} (hy:y≠0):pre [x,y] l=false→¬(l.getD 0 0=x∧l.getD 1 0=y):=by
 intro h c
 unfold pre at h
 rw[decide_eq_false_iff_not]at h
 match l with
 | []=>simp[List.getD]at c;omega
 | [p]=>simp[List.getD]at c;omega
 |p::q::t=>exact h (by simp[List.getD]at c;simp[c.1,c.2])
theorem pre1 {x:Int} {l:List Int}:pre [x] l=true→1≤l.length∧l.getD 0 0=x:=by
 intro h
 unfold pre at h
 rw[decide_eq_true_eq]at h
 match l,h with
 | [],h=>simp at h
 |p::t,h=>simp at h;exact⟨by simp,by simp[h]⟩
theorem pre1' {x:Int} {l:List Int} (hx:x≠0):pre [x] l=false→l.getD 0 0≠x:=by
 intro h c
 unfold pre at h
 rw[decide_eq_false_iff_not]at h
 match l with
 | []=>simp[List.getD]at c;omega
 |p::t=>exact h (by simp[List.getD]at c;simp[c])
theorem one_hex_pair (l:List Int):(jy (ja true l)=(0,0)∧ZZ l<0)∨(jy (ja true l)=(ZZ l,2)∧0≤ZZ l∧ZZ l≤255):=by
 unfold ja jy
 simp only[if_true]
 have:=hex_range l
 by_cases c:ZZ l<0
 ·exact .inl ⟨by rw[if_pos c];rfl,c⟩
 ·exact .inr ⟨by rw[if_neg c];rfl,by omega,by omega⟩
theorem st_bx:St ⟨#[92,120]⟩ [92,120]:=⟨rfl,by intro z hz;simp at hz;omega⟩
theorem piece_l (a:Option Addr) (len cap:Nat) (l:List Int) (w:World) (h:Bs w a len cap l) (hl:len≤1000000):
  Calls Tryz.prog 184 #[.slice a len cap] w fun e w'=>e= .returned (.tuple #[.int .u8 (jy (qK l)).1,.int .i64 ((jy (qK l)).2:Nat)])∧Below w.heap.size w w':=by
 have hlen:=h.hlen
 have CB:=zk (jK a len cap l w h ⟨#[92,120]⟩ [92,120] st_bx (by simp))
 cases hp:pre [92,120] l with
 |true=>
  obtain⟨p1,p2,p3⟩:=pre2 (by omega) hp
  have ep:qK l=if 0≤ZZ (l.drop 2)then some (ZZ (l.drop 2),4)else none:=by
   unfold qK jw
   rw[if_neg (by rw[p2];omega),if_pos p2]
   simp only[p3,true_and]
  have sl:=xk a len cap 2 2 rfl (by omega)
  have CH:=zk (fun W (hB:Bs W a len cap l)=>hex_l _ _ _ _ W (Bs.dropA hB 2 (by omega)) (by omega))
  rw[ep]
  rw[hp]at CB
  have HB:=zk h
  clear h ep hp p2 p3
  rcases one_hex_pair (l.drop 2)with ⟨e1,e2⟩|⟨e1,e2,e3⟩
  ·rw[e1]at CH
   rw[if_neg (by omega)]
   show Calls _ _ _ _ fun e w'=>e= .returned (.tuple #[.int .u8 0,.int .i64 0])∧Below w.heap.size w w'
   clear e1 e2
   go_enter Tryz.func184,Tryz.ntmps184
   go_wp2_with fail
   refine(zq CB).mono ?_
   rintro e w1 ⟨rfl,b1⟩
   clear CB
   have HB1:=zk (Bs.later (zq HB) b1 (Nat.le_refl _))
   clear HB
   go_wp2_with fail
   refine(zq CH _ (zq HB1)).mono ?_
   rintro e w2 ⟨rfl,hw2⟩
   obtain rfl:w1=w2:=hw2.symm
   clear hw2 CH
   go_wp2_with fail
   go_ret2
   exact⟨rfl,b1⟩
  ·rw[e1]at CH
   rw[if_pos (by omega)]
   show Calls _ _ _ _ fun e w'=>e= .returned (.tuple #[.int .u8 (ZZ (l.drop 2)),.int .i64 4])∧Below w.heap.size w w'
   clear e1
   generalize ZZ (l.drop 2)=v at*
   go_enter Tryz.func184,Tryz.ntmps184
   go_wp2_with fail
   refine(zq CB).mono ?_
   rintro e w1 ⟨rfl,b1⟩
   clear CB
   have HB1:=zk (Bs.later (zq HB) b1 (Nat.le_refl _))
   clear HB
   go_wp2_with fail
   refine(zq CH _ (zq HB1)).mono ?_
   rintro e w2 ⟨rfl,hw2⟩
   obtain rfl:w1=w2:=hw2.symm
   clear hw2 CH
   go_wp2_with fail
   go_ret2
   exact⟨ret_bi (by go_num) rfl,b1⟩
 |false=>
  have pp:=pre2' (by omega) hp
  rw[hp]at CB
  by_cases h0:0<len
  ·obtain⟨b,off,rfl,hb⟩:=h.open (by omega)
   obtain⟨z,hz,z0,z1,cz⟩:=bat hb 0 h0
   rw[Nat.add_zero]at cz
   have CS:=zk (standsInLit_l z z0 z1)
   have HB:=zk h
   cases hr:rawB z with
   |true=>
    have ep:qK l=some (z,1):=by
     unfold rawB at hr
     simp at hr
     unfold qK jw
     rw[hz,if_neg (by omega),if_neg (by omega),if_neg (by omega)]
    rw[ep]
    rw[hr]at CS
    show Calls _ _ _ _ fun e w'=>e= .returned (.tuple #[.int .u8 z,.int .i64 1])∧Below w.heap.size w w'
    clear h hb ep hr pp hp hz
    go_enter Tryz.func184,Tryz.ntmps184
    go_wp2_with fail
    refine(zq CB).mono ?_
    rintro e w1 ⟨rfl,b1⟩
    clear CB
    have cz1:w1.cell? ⟨b,off,none⟩=some (.int .u8 z):=by rw[b1.cell (zJ cz)];exact cz
    clear cz HB
    go_wp2_with fail
    refine(zq CS _).mono ?_
    rintro e w2 ⟨rfl,hw2⟩
    obtain rfl:w1=w2:=hw2.symm
    clear hw2 CS
    go_wp2_with fail
    go_ret2
    exact⟨rfl,b1⟩
   |false=>
    have ep:qK l=none:=by
     unfold rawB at hr
     simp at hr
     unfold qK
     rw[hz]
     by_cases c34:z=34
     ·rw[if_pos c34]
     ·rw[if_neg c34]
      unfold jw
      rw[hz]
      by_cases c92:z=92
      ·rw[if_pos c92,if_neg (by intro c;exact pp ⟨by rw[hz,c92],c.1⟩)]
      ·rw[if_neg c92,if_pos (by omega)]
    rw[ep]
    rw[hr]at CS
    show Calls _ _ _ _ fun e w'=>e= .returned (.tuple #[.int .u8 0,.int .i64 0])∧Below w.heap.size w w'
    clear h hb ep hr pp hp hz
    go_enter Tryz.func184,Tryz.ntmps184
    go_wp2_with fail
    refine(zq CB).mono ?_
    rintro e w1 ⟨rfl,b1⟩
    clear CB
    have cz1:w1.cell? ⟨b,off,none⟩=some (.int .u8 z):=by rw[b1.cell (zJ cz)];exact cz
    clear cz HB
    go_wp2_with fail
    refine(zq CS _).mono ?_
    rintro e w2 ⟨rfl,hw2⟩
    obtain rfl:w1=w2:=hw2.symm
    clear hw2 CS
    go_wp2_with fail
    go_ret2
    exact⟨rfl,b1⟩
  ·obtain rfl:len=0:=by omega
   obtain rfl:l=[]:=List.eq_nil_of_length_eq_zero hlen
   have ep:jy (qK [])=(0,0):=by decide
   rw[ep]
   clear h ep pp hp
   go_enter Tryz.func184,Tryz.ntmps184
   go_wp2_with fail
   refine(zq CB).mono ?_
   rintro e w1 ⟨rfl,b1⟩
   clear CB
   go_wp2_with fail
   go_ret2
   exact⟨rfl,b1⟩
end Go.Proofs.YtcblkmlcbedomaaGreatDoor.T

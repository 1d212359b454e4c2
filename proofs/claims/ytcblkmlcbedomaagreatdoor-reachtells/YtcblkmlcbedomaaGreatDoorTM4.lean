/- Parts of the proof that stand ahead of it (T 4). -/
import Derived.Laws.EntriesVeiled
import Derived.Test.YtcblkmlcbedomaaGreatDoorTM3
set_option linter.unusedVariables false
set_option linter.unusedSimpArgs false
set_option maxRecDepth 20000
set_option maxHeartbeats 16000000
namespace Go.Proofs.YtcblkmlcbedomaaGreatDoor
open Go.RowKit
structure Bs (w:World) (a:Option Addr) (len cap:Nat) (l:List Int):Prop where
 hlen:l.length=len
 hcap:len≤cap
 hmax:cap≤maxLen
 hbytes:U.zv l
 hcell:∀i,i<len→∃b off,a=some ⟨b,off,none⟩∧w.cell? ⟨b,off+i,none⟩=some (.int .u8 (l.getD i 0))
structure Bb (w:World) (b off len cap:Nat) (l:List Int):Prop where
 hlen:l.length=len
 hpos:1≤len
 hcap:len≤cap
 hmax:cap≤maxLen
 hbytes:U.zv l
 hcell:∀i,i<len→w.cell? ⟨b,off+i,none⟩=some (.int .u8 (l.getD i 0))
theorem Bs.open {w:World} {a:Option Addr} {len cap:Nat} {l:List Int} (h:Bs w a len cap l) (hp:1≤len):∃b off,a=some ⟨b,off,none⟩∧Bb w b off len cap l:=by
 obtain⟨b,off,ha,hc⟩:=h.hcell 0 (by omega)
 refine⟨b,off,ha,h.hlen,hp,h.hcap,h.hmax,h.hbytes,fun i hi=> ?_⟩
 obtain⟨b',off',ha',hc'⟩:=h.hcell i hi
 rw[ha]at ha'
 injection ha' with e
 injection e with e1 e2
 subst e1;subst e2
 exact hc'
theorem Bb.drop {w:World} {b off len cap:Nat} {l:List Int} (h:Bb w b off len cap l) (k:Nat) (hk:k<len):Bb w b (off+k) (len-k) (cap-k) (l.drop k):=by
 have h1:=h.hcap
 have h2:=h.hmax
 refine⟨by rw[List.length_drop,h.hlen],by omega,by omega,by omega,U.zZ h.hbytes k,fun i hi=> ?_⟩
 have:=h.hcell (k+i) (by omega)
 rw[Nat.add_assoc,this]
 simp[List.getD]
theorem YJ (b off len cap:Nat) (w:World) (c:Int) (m:Nat) (hm:U.zW c=m) (hp:(0:Int)<(len:Int)) (hc:w.cell? ⟨b,off,none⟩=some (.int .u8 c)) (hb:0≤c∧c≤255):
  Calls Tryz.prog 233 #[.slice (some ⟨b,off,none⟩) len cap] w fun e w'=>e= .returned (.int .i64 m)∧w'=w:=by
  unfold U.zW at hm
  by_cases c1:c<128
  ·rw[if_pos c1]at hm;subst hm
   go_enter Tryz.func233,Tryz.ntmps233
   go_wp2
   go_ret
   exact⟨rfl,rfl⟩
  rw[if_neg c1]at hm
  by_cases c2:c<192
  ·rw[if_pos c2]at hm;subst hm
   go_enter Tryz.func233,Tryz.ntmps233
   go_wp2
   go_ret
   exact⟨rfl,rfl⟩
  rw[if_neg c2]at hm
  by_cases c3:c<224
  ·rw[if_pos c3]at hm;subst hm
   go_enter Tryz.func233,Tryz.ntmps233
   go_wp2
   go_ret
   exact⟨rfl,rfl⟩
  rw[if_neg c3]at hm
  by_cases c4:c<240
  ·rw[if_pos c4]at hm;subst hm
   go_enter Tryz.func233,Tryz.ntmps233
   go_wp2
   go_ret
   exact⟨rfl,rfl⟩
  rw[if_neg c4]at hm
  by_cases c5:c<248
  ·rw[if_pos c5]at hm;subst hm
   go_enter Tryz.func233,Tryz.ntmps233
   go_wp2
   go_ret
   exact⟨rfl,rfl⟩
  ·rw[if_neg c5]at hm;subst hm
   go_enter Tryz.func233,Tryz.ntmps233
   go_wp2
   go_ret
   exact⟨rfl,rfl⟩
theorem Ze (least r:Int) (w:World):
  Calls Tryz.prog 261 #[.int .i64 least,.int .i64 r] w fun e w'=>e= .returned (.int .i64 (U.qV least r))∧w'=w:=by
 have key:∀m:Int,U.qV least r=m→Calls Tryz.prog 261 #[.int .i64 least,.int .i64 r] w fun e w'=>e= .returned (.int .i64 m)∧w'=w:=by
  intro m hm
  unfold U.qV at hm
  by_cases c1:r<least
  ·rw[if_pos (Or.inl c1)]at hm;subst hm
   go_enter Tryz.func261,Tryz.ntmps261
   go_wp2
   go_ret
   exact⟨rfl,rfl⟩
  ·cases c2:U.zo r
   ·rw[if_pos (Or.inr c2)]at hm;subst hm
    go_enter Tryz.func261,Tryz.ntmps261
    go_wp2_with (go_at_call 230;refine(may_any _ _).mono ?_;rintro e w' ⟨rfl,rfl⟩)
    go_ret
    exact⟨rfl,rfl⟩
   ·rw[if_neg (by simp[c2];omega)]at hm;subst hm
    go_enter Tryz.func261,Tryz.ntmps261
    go_wp2_with (go_at_call 230;refine(may_any _ _).mono ?_;rintro e w' ⟨rfl,rfl⟩)
    go_ret
    exact⟨rfl,rfl⟩
 exact key _ rfl
theorem add_any (b off len cap:Nat) (w:World) (high i c:Int) (n:Nat) (hi:i=(n:Int)) (hn:n<len) (hlen:len≤maxLen) (hc:w.cell? ⟨b,off+n,none⟩=some (.int .u8 c)) (hb:0≤c∧c≤255) (hh: -300≤high) (hh2:high≤10000000):
  Calls Tryz.prog 262 #[.slice (some ⟨b,off,none⟩) len cap,.int .i64 high,.int .i64 i] w fun e w'=>e= .returned (.int .i64 (U.xj high c))∧w'=w:=by
 subst hi
 have hm:len≤9223372036854775807:=by unfold maxLen at hlen;omega
 clear hlen
 have key:∀m:Int,U.xj high c=m→Calls Tryz.prog 262 #[.slice (some ⟨b,off,none⟩) len cap,.int .i64 high,.int .i64 n] w fun e w'=>e= .returned (.int .i64 m)∧w'=w:=by
  intro m hm'
  unfold U.xj at hm'
  by_cases c1:high<0
  ·rw[if_pos (Or.inl c1)]at hm';subst hm'
   go_enter Tryz.func262,Tryz.ntmps262
   go_wp2
   go_ret
   exact⟨rfl,rfl⟩
  ·by_cases c2:c/64=2
   ·rw[if_neg (by omega)]at hm';subst hm'
    have c3:(c/64 !=2)=false:=by simp[c2]
    clear c2
    go_enter Tryz.func262,Tryz.ntmps262
    go_wp2
    go_ret
    exact⟨rfl,rfl⟩
   ·rw[if_pos (Or.inr c2)]at hm';subst hm'
    have c3:(c/64 !=2)=true:=by simp[c2]
    clear c2
    go_enter Tryz.func262,Tryz.ntmps262
    go_wp2
    go_ret
    exact⟨rfl,rfl⟩
 exact key _ rfl
theorem addN_bd (h z:Int) (_hz:0≤z): -1≤U.xj h z∧(U.xj h z≤h*64+63∨U.xj h z= -1):=by
 unfold U.xj;split<;>omega
theorem two_any (b off len cap:Nat) (w:World) (c0 c1:Int) (hn:2≤len) (hlen:len≤maxLen) (k0:w.cell? ⟨b,off,none⟩=some (.int .u8 c0)) (k1:w.cell? ⟨b,off+1,none⟩=some (.int .u8 c1)) (b0:0≤c0∧c0≤255) (b1:0≤c1∧c1≤255):
  Calls Tryz.prog 245 #[.slice (some ⟨b,off,none⟩) len cap] w fun e w'=>e= .returned (.int .i64 (U.qV 128 (U.xj (c0-192) c1)))∧w'=w:=by
 have hp:(0:Int)<(len:Int):=by omega
 go_enter Tryz.func245,Tryz.ntmps245
 go_wp2_with (first|(go_at_call 262;refine(add_any b off len cap _ _ _ c1 1 rfl (by omega) hlen k1 b1 (by omega) (by omega)).mono ?_;rintro e w' ⟨rfl,rfl⟩)|(go_at_call 261;refine(Ze _ _ _).mono ?_;rintro e w' ⟨rfl,rfl⟩))
 go_ret
 exact⟨rfl,rfl⟩
theorem three_any (b off len cap:Nat) (w:World) (c0 c1 c2:Int) (hn:3≤len) (hlen:len≤maxLen) (k0:w.cell? ⟨b,off,none⟩=some (.int .u8 c0)) (k1:w.cell? ⟨b,off+1,none⟩=some (.int .u8 c1)) (k2:w.cell? ⟨b,off+2,none⟩=some (.int .u8 c2)) (b0:0≤c0∧c0≤255) (b1:0≤c1∧c1≤255) (b2:0≤c2∧c2≤255):
  Calls Tryz.prog 246 #[.slice (some ⟨b,off,none⟩) len cap] w fun e w'=>e= .returned (.int .i64 (U.qV 2048 (U.xj (U.xj (c0-224) c1) c2)))∧w'=w:=by
 have hp:(0:Int)<(len:Int):=by omega
 have h1:=addN_bd (c0-224) c1 b1.1
 go_enter Tryz.func246,Tryz.ntmps246
 go_wp2_with fail
 refine(add_any b off len cap _ _ _ c1 1 rfl (by omega) hlen k1 b1 (by omega) (by omega)).mono ?_
 rintro e w' ⟨rfl,rfl⟩
 go_wp2_with fail
 refine(add_any b off len cap _ _ _ c2 2 rfl (by omega) hlen k2 b2 (by omega) (by omega)).mono ?_
 rintro e w' ⟨rfl,rfl⟩
 go_wp2_with (go_at_call 261;refine(Ze _ _ _).mono ?_;rintro e w' ⟨rfl,rfl⟩)
 go_ret
 exact⟨rfl,rfl⟩
theorem four_any (b off len cap:Nat) (w:World) (c0 c1 c2 c3:Int) (hn:4≤len) (hlen:len≤maxLen) (k0:w.cell? ⟨b,off,none⟩=some (.int .u8 c0)) (k1:w.cell? ⟨b,off+1,none⟩=some (.int .u8 c1)) (k2:w.cell? ⟨b,off+2,none⟩=some (.int .u8 c2)) (k3:w.cell? ⟨b,off+3,none⟩=some (.int .u8 c3)) (b0:0≤c0∧c0≤255) (b1:0≤c1∧c1≤255) (b2:0≤c2∧c2≤255) (b3:0≤c3∧c3≤255):
  Calls Tryz.prog 247 #[.slice (some ⟨b,off,none⟩) len cap] w fun e w'=>e= .returned (.int .i64 (U.qV 65536 (U.xj (U.xj (U.xj (c0-240) c1) c2) c3)))∧w'=w:=by
 have hp:(0:Int)<(len:Int):=by omega
 have h1:=addN_bd (c0-240) c1 b1.1
 have h2:=addN_bd (U.xj (c0-240) c1) c2 b2.1
 go_enter Tryz.func247,Tryz.ntmps247
 go_wp2_with fail
 refine(add_any b off len cap _ _ _ c1 1 rfl (by omega) hlen k1 b1 (by omega) (by omega)).mono ?_
 rintro e w' ⟨rfl,rfl⟩
 go_wp2_with fail
 refine(add_any b off len cap _ _ _ c2 2 rfl (by omega) hlen k2 b2 (by omega) (by omega)).mono ?_
 rintro e w' ⟨rfl,rfl⟩
 go_wp2_with fail
 refine(add_any b off len cap _ _ _ c3 3 rfl (by omega) hlen k3 b3 (by omega) (by omega)).mono ?_
 rintro e w' ⟨rfl,rfl⟩
 go_wp2_with (go_at_call 261;refine(Ze _ _ _).mono ?_;rintro e w' ⟨rfl,rfl⟩)
 go_ret
 exact⟨rfl,rfl⟩
theorem one_any (b off len cap:Nat) (w:World) (c0:Int) (hn:1≤len) (k0:w.cell? ⟨b,off,none⟩=some (.int .u8 c0)) (b0:0≤c0∧c0≤255):
  Calls Tryz.prog 244 #[.slice (some ⟨b,off,none⟩) len cap] w fun e w'=>e= .returned (.int .i64 c0)∧w'=w:=by
 have hp:(0:Int)<(len:Int):=by omega
 go_enter Tryz.func244,Tryz.ntmps244
 go_wp2
 go_ret
 exact⟨rfl,rfl⟩
theorem none_any (b off len cap:Nat) (w:World):
  Calls Tryz.prog 243 #[.slice (some ⟨b,off,none⟩) len cap] w fun e w'=>e= .returned (.int .i64 (-1))∧w'=w:=by
 go_enter Tryz.func243,Tryz.ntmps243
 go_wp2
 go_ret
 exact⟨rfl,rfl⟩
def qi:Obj:= .cells #[.func (.func 243) #[] #[],.func (.func 244) #[] #[],.func (.func 245) #[] #[],.func (.func 246) #[] #[],.func (.func 247) #[] #[]] 260
theorem vV (w:World):
  Calls Tryz.prog 234 #[] w fun e w'=>e= .returned (.agg #[.func (.func 243) #[] #[],.func (.func 244) #[] #[],.func (.func 245) #[] #[],.func (.func 246) #[] #[],.func (.func 247) #[] #[]])∧w'=w.alloc qi:=by
 unfold qi
 go_enter Tryz.func234,Tryz.ntmps234
 go_wp2
 exact bodyPost_ret (v:= .agg #[.func (.func 243) #[] #[],.func (.func 244) #[] #[],.func (.func 245) #[] #[],.func (.func 246) #[] #[],.func (.func 247) #[] #[]]) (by simp[results,Tryz.results234,go_sem]) rfl ⟨rfl,rfl⟩
theorem next_out (a:Option Addr) (len cap:Nat) (w:World) (at':Int) (h:at'<0∨(len:Int)≤at'):
  Calls Tryz.prog 215 #[.slice a len cap,.int .i64 at'] w fun e w'=>e= .returned (.tuple #[.int .i64 (-1),.int .i64 0])∧w'=w:=by
 by_cases h0:at'<0
 ·go_enter Tryz.func215,Tryz.ntmps215
  go_wp2
  go_ret2
  exact⟨rfl,rfl⟩
 ·have h1:(len:Int)≤at':=by omega
  clear h
  go_enter Tryz.func215,Tryz.ntmps215
  go_wp2
  go_ret2
  exact⟨rfl,rfl⟩
theorem next_short (b off len cap:Nat) (w:World) (n m:Nat) (c:Int) (hm:U.zW c=m) (hn:n<len) (hcap:len≤cap) (hmax:cap≤maxLen) (hc:w.cell? ⟨b,off+n,none⟩=some (.int .u8 c)) (hb:0≤c∧c≤255) (hs:len-n<m):
  Calls Tryz.prog 215 #[.slice (some ⟨b,off,none⟩) len cap,.int .i64 n] w fun e w'=>e= .returned (.tuple #[.int .i64 (-1),.int .i64 1])∧w'=w:=by
 unfold maxLen at hmax
 have HM:Hid (U.zW c=m):=hm
 clear hm
 have hne:¬cap=n:=by omega
 go_enter Tryz.func215,Tryz.ntmps215
 go_wp2_with (go_at_call 233;refine(YJ _ _ _ _ _ c m HM.out (by omega) hc hb).mono ?_;rintro e w' ⟨rfl,rfl⟩)
 go_ret2
 exact⟨rfl,rfl⟩
theorem hideC {p:Prop} (h:p):Hid p:=h
theorem unhideC {p:Prop} (h:Hid p):p:=h
theorem next_long (b off len cap:Nat) (w:World) (n m:Nat) (c r:Int) (hm:U.zW c=m) (hn:n<len) (hcap:len≤cap) (hmax:cap≤maxLen) (hc:w.cell? ⟨b,off+n,none⟩=some (.int .u8 c)) (hb:0≤c∧c≤255) (hs:m≤len-n)
  (f:Nat) (hf:(m=0∧f=243)∨(m=1∧f=244)∨(m=2∧f=245)∨(m=3∧f=246)∨(m=4∧f=247))
  (hr:Calls Tryz.prog f #[.slice (some ⟨b,off+n,none⟩) (len-n) (cap-n)] (w.alloc qi) fun e w'=>e= .returned (.int .i64 r)∧w'=w.alloc qi) (x:Int) (k:Nat) (hx:(r<0∧x= -1∧k=1)∨(0≤r∧x=r∧k=m)):
  Calls Tryz.prog 215 #[.slice (some ⟨b,off,none⟩) len cap,.int .i64 n] w fun e w'=>e= .returned (.tuple #[.int .i64 x,.int .i64 k])∧w'=w.alloc qi:=by
 unfold maxLen at hmax
 have hne:¬cap=n:=by omega
 rcases hf with ⟨rfl,rfl⟩|⟨rfl,rfl⟩|⟨rfl,rfl⟩|⟨rfl,rfl⟩|⟨rfl,rfl⟩
 ·have HM:Hid (U.zW c=0):=hm
  clear hm
  have HR:=hideC hr
  clear hr
  have ix:∀w,(Instr.index 260 (.agg #[.func (.func 243) #[] #[],.func (.func 244) #[] #[],.func (.func 245) #[] #[],.func (.func 246) #[] #[],.func (.func 247) #[] #[]]) (.int .i64 0)).run Tryz.prog w= .ok (.func (.func 243) #[] #[]) w:=fun _=>by kernel_rfl
  rcases hx with ⟨hx1,rfl,rfl⟩|⟨hx1,rfl,rfl⟩
  all_goals
   go_enter Tryz.func215,Tryz.ntmps215
   go_wp2_with fail
   refine(YJ _ _ _ _ _ c 0 HM.out (by omega) hc hb).mono ?_
   rintro e w' ⟨rfl,rfl⟩
   go_wp2_with fail
   refine(vV _).mono ?_
   rintro e w' ⟨rfl,rfl⟩
   go_wp2_with fail
   refine(unhideC HR).mono ?_
   rintro e w' ⟨rfl,rfl⟩
   go_wp2_with fail
   go_ret2
   exact⟨rfl,rfl⟩
 ·have HM:Hid (U.zW c=1):=hm
  clear hm
  have HR:=hideC hr
  clear hr
  have ix:∀w,(Instr.index 260 (.agg #[.func (.func 243) #[] #[],.func (.func 244) #[] #[],.func (.func 245) #[] #[],.func (.func 246) #[] #[],.func (.func 247) #[] #[]]) (.int .i64 1)).run Tryz.prog w= .ok (.func (.func 244) #[] #[]) w:=fun _=>by kernel_rfl
  rcases hx with ⟨hx1,rfl,rfl⟩|⟨hx1,rfl,rfl⟩
  all_goals
   go_enter Tryz.func215,Tryz.ntmps215
   go_wp2_with fail
   refine(YJ _ _ _ _ _ c 1 HM.out (by omega) hc hb).mono ?_
   rintro e w' ⟨rfl,rfl⟩
   go_wp2_with fail
   refine(vV _).mono ?_
   rintro e w' ⟨rfl,rfl⟩
   go_wp2_with fail
   refine(unhideC HR).mono ?_
   rintro e w' ⟨rfl,rfl⟩
   go_wp2_with fail
   go_ret2
   exact⟨rfl,rfl⟩
 ·have HM:Hid (U.zW c=2):=hm
  clear hm
  have HR:=hideC hr
  clear hr
  have ix:∀w,(Instr.index 260 (.agg #[.func (.func 243) #[] #[],.func (.func 244) #[] #[],.func (.func 245) #[] #[],.func (.func 246) #[] #[],.func (.func 247) #[] #[]]) (.int .i64 2)).run Tryz.prog w= .ok (.func (.func 245) #[] #[]) w:=fun _=>by kernel_rfl
  rcases hx with ⟨hx1,rfl,rfl⟩|⟨hx1,rfl,rfl⟩
  all_goals
   go_enter Tryz.func215,Tryz.ntmps215
   go_wp2_with fail
   refine(YJ _ _ _ _ _ c 2 HM.out (by omega) hc hb).mono ?_
   rintro e w' ⟨rfl,rfl⟩
   go_wp2_with fail
   refine(vV _).mono ?_
   rintro e w' ⟨rfl,rfl⟩
   go_wp2_with fail
   refine(unhideC HR).mono ?_
   rintro e w' ⟨rfl,rfl⟩
   go_wp2_with fail
   go_ret2
   exact⟨rfl,rfl⟩
 ·have HM:Hid (U.zW c=3):=hm
  clear hm
  have HR:=hideC hr
  clear hr
  have ix:∀w,(Instr.index 260 (.agg #[.func (.func 243) #[] #[],.func (.func 244) #[] #[],.func (.func 245) #[] #[],.func (.func 246) #[] #[],.func (.func 247) #[] #[]]) (.int .i64 3)).run Tryz.prog w= .ok (.func (.func 246) #[] #[]) w:=fun _=>by kernel_rfl
  rcases hx with ⟨hx1,rfl,rfl⟩|⟨hx1,rfl,rfl⟩
  all_goals
   go_enter Tryz.func215,Tryz.ntmps215
   go_wp2_with fail
   refine(YJ _ _ _ _ _ c 3 HM.out (by omega) hc hb).mono ?_
   rintro e w' ⟨rfl,rfl⟩
   go_wp2_with fail
   refine(vV _).mono ?_
   rintro e w' ⟨rfl,rfl⟩
   go_wp2_with fail
   refine(unhideC HR).mono ?_
   rintro e w' ⟨rfl,rfl⟩
   go_wp2_with fail
   go_ret2
   exact⟨rfl,rfl⟩
 ·have HM:Hid (U.zW c=4):=hm
  clear hm
  have HR:=hideC hr
  clear hr
  have ix:∀w,(Instr.index 260 (.agg #[.func (.func 243) #[] #[],.func (.func 244) #[] #[],.func (.func 245) #[] #[],.func (.func 246) #[] #[],.func (.func 247) #[] #[]]) (.int .i64 4)).run Tryz.prog w= .ok (.func (.func 247) #[] #[]) w:=fun _=>by kernel_rfl
  rcases hx with ⟨hx1,rfl,rfl⟩|⟨hx1,rfl,rfl⟩
  all_goals
   go_enter Tryz.func215,Tryz.ntmps215
   go_wp2_with fail
   refine(YJ _ _ _ _ _ c 4 HM.out (by omega) hc hb).mono ?_
   rintro e w' ⟨rfl,rfl⟩
   go_wp2_with fail
   refine(vV _).mono ?_
   rintro e w' ⟨rfl,rfl⟩
   go_wp2_with fail
   refine(unhideC HR).mono ?_
   rintro e w' ⟨rfl,rfl⟩
   go_wp2_with fail
   go_ret2
   exact⟨rfl,rfl⟩
def nx (l:List Int) (at':Int):Int×Nat:=if at'<0∨(l.length:Int)≤at' then (-1,0)else U.yw (l.drop at'.toNat)
theorem Below.one {w:World} (o:Obj):Below w.heap.size w (w.alloc o):=(Below.refl _ _).alloc (Nat.le_refl _) o
theorem next_any (a:Option Addr) (len cap:Nat) (l:List Int) (w:World) (h:Bs w a len cap l) (at':Int):
  Calls Tryz.prog 215 #[.slice a len cap,.int .i64 at'] w fun e w'=>e= .returned (.tuple #[.int .i64 (nx l at').1,.int .i64 (nx l at').2])∧Below w.heap.size w w':=by
 have hl:=h.hlen
 by_cases ho:at'<0∨(len:Int)≤at'
 ·have e:nx l at'=(-1,0):=by unfold nx;rw[if_pos (by omega)]
  rw[e]
  refine(next_out a len cap w at' ho).mono ?_
  rintro e w' ⟨rfl,rfl⟩
  exact⟨rfl,Below.refl _ _⟩
 ·have e:nx l at'=U.yw (l.drop at'.toNat):=by unfold nx;rw[if_neg (by omega)]
  rw[e];clear e
  obtain⟨n,rfl⟩:=Int.eq_ofNat_of_zero_le (by omega:0≤at')
  simp only[Int.toNat_natCast]at*
  have hn:n<len:=by omega
  clear ho
  obtain⟨b,off,rfl,hb⟩:=h.open (by omega)
  have hd:=hb.drop n hn
  have hcap:=h.hcap
  have hmax:=h.hmax
  generalize l.drop n=l' at hd
  have c0:=hd.hcell 0 hd.hpos
  have b0:=U.yv hd.hbytes 0
  rw[Nat.add_zero]at c0
  have hne:l'≠[]:=by have:=hd.hlen;have:=hd.hpos;intro e;subst e;simp at*;omega
  have hmx:len-n≤maxLen:=by omega
  have cw:∀i x,w.cell? ⟨b,i,none⟩=some x→(w.alloc qi).cell? ⟨b,i,none⟩=some x:=by
   intro i x hx
   have hlt:b<w.heap.size:=block_lt_of_cell hx
   rw[(Below.one (w:=w) qi).cell (p:=⟨b,i,none⟩) hlt];exact hx
  by_cases hs:len-n<U.zW (l'.getD 0 0)
  ·have e:U.yw l'=(-1,1):=by unfold U.yw;rw[if_neg hne,hd.hlen,if_pos hs]
   rw[e]
   refine(next_short b off len cap w n _ _ rfl hn hcap hmax c0 b0 hs).mono ?_
   rintro e w' ⟨rfl,rfl⟩
   exact⟨rfl,Below.refl _ _⟩
  ·have e:U.yw l'=if U.xY (U.zW (l'.getD 0 0)) l'<0 then (-1,1)else (U.xY (U.zW (l'.getD 0 0)) l',U.zW (l'.getD 0 0)):=by
    unfold U.yw;rw[if_neg hne,hd.hlen,if_neg hs]
   have fin:∀f:Nat,((U.zW (l'.getD 0 0)=0∧f=243)∨(U.zW (l'.getD 0 0)=1∧f=244)∨(U.zW (l'.getD 0 0)=2∧f=245)∨(U.zW (l'.getD 0 0)=3∧f=246)∨(U.zW (l'.getD 0 0)=4∧f=247))→
     (Calls Tryz.prog f #[.slice (some ⟨b,off+n,none⟩) (len-n) (cap-n)] (w.alloc qi) fun e w'=>e= .returned (.int .i64 (U.xY (U.zW (l'.getD 0 0)) l'))∧w'=w.alloc qi)→
     Calls Tryz.prog 215 #[.slice (some ⟨b,off,none⟩) len cap,.int .i64 n] w fun e w'=>e= .returned (.tuple #[.int .i64 (U.yw l').1,.int .i64 (U.yw l').2])∧Below w.heap.size w w':=by
    intro f hf hr
    refine(next_long b off len cap w n _ _ _ rfl hn hcap hmax c0 b0 (by omega) f hf hr (U.yw l').1 (U.yw l').2 ?_).mono ?_
    ·rw[e]
     by_cases hr0:U.xY (U.zW (l'.getD 0 0)) l'<0
     ·rw[if_pos hr0];exact .inl ⟨hr0,rfl,rfl⟩
     ·rw[if_neg hr0];exact .inr ⟨by omega,rfl,rfl⟩
    ·rintro e w' ⟨rfl,rfl⟩
     exact⟨rfl,Below.one _⟩
   have hm:U.zW (l'.getD 0 0)=0∨U.zW (l'.getD 0 0)=1∨U.zW (l'.getD 0 0)=2∨U.zW (l'.getD 0 0)=3∨U.zW (l'.getD 0 0)=4:=by
    unfold U.zW;split; · simp
    split; · simp
    split; · simp
    split; · simp
    split<;>simp
   rcases hm with hm|hm|hm|hm|hm
   ·refine fin 243 (.inl ⟨hm,rfl⟩) ?_
    rw[hm,show U.xY 0 l'= -1 by simp[U.xY]]
    exact none_any _ _ _ _ _
   ·refine fin 244 (.inr (.inl ⟨hm,rfl⟩)) ?_
    rw[hm,show U.xY 1 l'=l'.getD 0 0 by simp[U.xY]]
    exact one_any _ _ _ _ _ _ (by omega) (cw _ _ c0) b0
   ·refine fin 245 (.inr (.inr (.inl ⟨hm,rfl⟩))) ?_
    rw[hm]at hs
    rw[hm,show U.xY 2 l'=U.qV 128 (U.xj (l'.getD 0 0-192) (l'.getD 1 0)) from rfl]
    exact two_any _ _ _ _ _ _ _ (by omega) hmx (cw _ _ c0) (cw _ _ (hd.hcell 1 (by omega))) b0 (U.yv hd.hbytes 1)
   ·refine fin 246 (.inr (.inr (.inr (.inl ⟨hm,rfl⟩)))) ?_
    rw[hm]at hs
    rw[hm,show U.xY 3 l'=U.qV 2048 (U.xj (U.xj (l'.getD 0 0-224) (l'.getD 1 0)) (l'.getD 2 0)) from rfl]
    exact three_any _ _ _ _ _ _ _ _ (by omega) hmx (cw _ _ c0) (cw _ _ (hd.hcell 1 (by omega))) (cw _ _ (hd.hcell 2 (by omega))) b0 (U.yv hd.hbytes 1) (U.yv hd.hbytes 2)
   ·refine fin 247 (.inr (.inr (.inr (.inr ⟨hm,rfl⟩)))) ?_
    rw[hm]at hs
    rw[hm,show U.xY 4 l'=U.qV 65536 (U.xj (U.xj (U.xj (l'.getD 0 0-240) (l'.getD 1 0)) (l'.getD 2 0)) (l'.getD 3 0)) from rfl]
    exact four_any _ _ _ _ _ _ _ _ _ (by omega) hmx (cw _ _ c0) (cw _ _ (hd.hcell 1 (by omega))) (cw _ _ (hd.hcell 2 (by omega))) (cw _ _ (hd.hcell 3 (by omega))) b0 (U.yv hd.hbytes 1) (U.yv hd.hbytes 2) (U.yv hd.hbytes 3)
theorem Bs.later {w w':World} {a:Option Addr} {len cap:Nat} {l:List Int} (h:Bs w a len cap l) {B:Nat} (hb:Below B w w') (hB:w.heap.size≤B):Bs w' a len cap l:=by
 refine⟨h.hlen,h.hcap,h.hmax,h.hbytes,fun i hi=> ?_⟩
 obtain⟨b,off,ha,hc⟩:=h.hcell i hi
 have hlt:b<w.heap.size:=block_lt_of_cell hc
 exact⟨b,off,ha,by rw[hb.cell (p:=⟨b,off+i,none⟩) (Nat.lt_of_lt_of_le hlt hB)];exact hc⟩
end Go.Proofs.YtcblkmlcbedomaaGreatDoor

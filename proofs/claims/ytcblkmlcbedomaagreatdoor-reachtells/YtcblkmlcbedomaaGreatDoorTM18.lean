/- Parts of the proof that stand ahead of it (T 18). -/
import Derived.Laws.CopyOwn
import Derived.Test.YtcblkmlcbedomaaGreatDoorTM17
set_option linter.unusedVariables false
set_option linter.unusedSimpArgs false
set_option maxRecDepth 20000
set_option maxHeartbeats 16000000
namespace Go.Proofs.YtcblkmlcbedomaaGreatDoor.T
open Go.RowKit
theorem zY {w w1 w2:World} (h:Below w.heap.size w w1) (k:Below w1.heap.size w1 w2):Below w.heap.size w w2:=h.trans (k.mono h.size)
theorem Zk {x:Int} (hx:x≠0) (l:List Int):pre [x] l=decide (l.getD 0 0=x):=by
 cases h:pre [x] l with
 |true=>exact(decide_eq_true (pre1 h).2).symm
 |false=>exact(decide_eq_false (pre1' hx h)).symm
theorem st_u:St ⟨#[92,117]⟩ [92,117]:=⟨rfl,by intro z hz;simp at hz;omega⟩
theorem st_semi:St ⟨#[59]⟩ [59]:=⟨rfl,by intro z hz;simp at hz;omega⟩
theorem dig_val:∀(m:Nat) (l:List Int) (v:Int),0≤v→0≤(yi m v l).1∧(yi m v l).1≤16^m*(v+1)-1:=by
 intro m
 induction m with
 |zero=>intro l v h;simp[yi];omega
 |succ m ih=>
  intro l v h
  have hp:(1:Int)≤16^m:=by have:(0:Int)<16^m:=Int.pow_pos (by omega);omega
  have hbase:16^m*(16*v+16)=16^(m+1)*(v+1):=by rw[Int.pow_succ,Int.mul_assoc,show(16:Int)*(v+1)=16*v+16 by omega]
  have hmono:∀x:Int,x≤16*v+16→16^m*x≤16^m*(16*v+16):=fun x hx=>Int.mul_le_mul_of_nonneg_left hx (by omega)
  cases l with
  |nil=>
   simp only[yi]
   have h1:=hmono (v+1) (by omega)
   have h2:1*(v+1)≤16^m*(v+1):=Int.mul_le_mul_of_nonneg_right hp (by omega)
   omega
  |cons z t=>
   simp only[yi]
   have hv:=ke z
   split
   ·next hz=>
    have:=ih t (16*v+xw z) (by omega)
    have h1:=hmono (16*v+xw z+1) (by omega)
    simp only
    omega
   ·have h1:=hmono (v+1) (by omega)
    have h2:1*(v+1)≤16^m*(v+1):=Int.mul_le_mul_of_nonneg_right hp (by omega)
    simp only
    omega
theorem digitsScalar_l (a:Option Addr) (len cap:Nat) (l:List Int) (w:World) (h:Bs w a len cap l) (hl:len≤1000000) (hp:pre [92,117] l=true):
  Calls Tryz.prog 214 #[.slice a len cap] w fun e w'=>e= .returned (.tuple #[.int .i64 (jy (jk l)).1,.int .i64 ((jy (jk l)).2:Nat)])∧Below w.heap.size w w':=by
 have hlen:=h.hlen
 obtain⟨p1,p2,p3⟩:=pre2 (by omega) hp
 have hne:l≠[]:=by intro c;rw[c]at p1;simp at p1
 obtain⟨⟨v,j⟩,hd⟩:∃p,yi 6 0 (l.drop 2)=p:=⟨_,rfl⟩
 have hb:=dig_bound 6 (l.drop 2) 0
 have hv:=dig_val 6 (l.drop 2) 0 (by omega)
 rw[hd,List.length_drop]at hb
 rw[hd]at hv
 simp only at hb hv
 have hv2:v≤16777215:=by(have:(16:Int)^6*(0+1)-1=16777215:=by decide);omega
 rw[sign_esc hne p2 p3 hd]
 have sl:=xk a len cap 2 2 rfl (by omega)
 have CN:=zk (number_l _ _ _ _ w (Bs.dropA h 2 (by omega)) (by omega) 6 (by omega))
 rw[hd]at CN
 simp only at CN
 have HB:=zk h
 have hj:2+j≤len:=by omega
 clear h hp p1 p2 p3 hne hd
 by_cases c0:j=0
 ·subst c0
  rw[if_pos (.inl rfl)]
  show Calls _ _ _ _ fun e w'=>e= .returned (.tuple #[.int .i64 0,.int .i64 0])∧Below w.heap.size w w'
  go_enter Tryz.func214,Tryz.ntmps214
  go_wp2_with fail
  refine(zq CN).mono ?_
  rintro e w1 ⟨rfl,hw1⟩
  obtain rfl:w=w1:=hw1.symm
  clear hw1 CN
  go_wp2_with fail
  go_ret2
  exact⟨rfl,Below.refl _ _⟩
 ·have c0':((j:Int)==0)=false:=beq_eq_false_iff_ne.2 (by omega)
  have sl2:=xk a len cap (2+j) (2+(j:Int)) (by omega) hj
  have CB:=zk (fun W (hB:Bs W a len cap l)=>jK _ _ _ _ W (Bs.dropA hB (2+j) hj) ⟨#[59]⟩ [59] st_semi (by simp))
  rw[Zk (by omega),ZK,Nat.add_zero]at CB
  have CM:=zk (fun W=>may_any v W)
  have t1:=kQ (2+(j:Int)) (by omega)
  have t2:=kQ (2+(j:Int)+1) (by omega)
  by_cases c1:l.getD (2+j) 0=59
  ·rw[decide_eq_true c1]at CB
   cases c2:U.zo v with
   |false=>
    rw[if_pos (.inr (.inl rfl))]
    rw[c2]at CM
    show Calls _ _ _ _ fun e w'=>e= .returned (.tuple #[.int .i64 0,.int .i64 0])∧Below w.heap.size w w'
    clear c1 c2
    go_enter Tryz.func214,Tryz.ntmps214
    go_wp2_with fail
    refine(zq CN).mono ?_
    rintro e w1 ⟨rfl,hw1⟩
    obtain rfl:w=w1:=hw1.symm
    clear hw1 CN
    go_wp2_with fail
    refine(zq CB _ (zq HB)).mono ?_
    rintro e w1 ⟨rfl,b1⟩
    clear CB
    go_wp2_with fail
    refine(zq CM _).mono ?_
    rintro e w2 ⟨rfl,hw2⟩
    obtain rfl:w1=w2:=hw2.symm
    clear hw2 CM
    go_wp2_with fail
    go_ret2
    exact⟨rfl,b1⟩
   |true=>
    rw[if_neg (by intro c;rcases c with c|c|c;exact c0 c;cases c;exact c c1)]
    rw[c2]at CM
    show Calls _ _ _ _ fun e w'=>e= .returned (.tuple #[.int .i64 v,.int .i64 ((j+3:Nat):Int)])∧Below w.heap.size w w'
    clear c1 c2
    go_enter Tryz.func214,Tryz.ntmps214
    go_wp2_with fail
    refine(zq CN).mono ?_
    rintro e w1 ⟨rfl,hw1⟩
    obtain rfl:w=w1:=hw1.symm
    clear hw1 CN
    go_wp2_with fail
    refine(zq CB _ (zq HB)).mono ?_
    rintro e w1 ⟨rfl,b1⟩
    clear CB
    go_wp2_with fail
    refine(zq CM _).mono ?_
    rintro e w2 ⟨rfl,hw2⟩
    obtain rfl:w1=w2:=hw2.symm
    clear hw2 CM
    go_wp2_with fail
    go_ret2
    exact⟨ret_two rfl (by omega),b1⟩
  ·rw[decide_eq_false c1]at CB
   rw[if_pos (.inr (.inr c1))]
   show Calls _ _ _ _ fun e w'=>e= .returned (.tuple #[.int .i64 0,.int .i64 0])∧Below w.heap.size w w'
   clear c1
   go_enter Tryz.func214,Tryz.ntmps214
   go_wp2_with fail
   refine(zq CN).mono ?_
   rintro e w1 ⟨rfl,hw1⟩
   obtain rfl:w=w1:=hw1.symm
   clear hw1 CN
   go_wp2_with fail
   refine(zq CB _ (zq HB)).mono ?_
   rintro e w1 ⟨rfl,b1⟩
   clear CB
   go_wp2_with fail
   go_ret2
   exact⟨rfl,b1⟩
theorem sign_plain {l:List Int} (hb:U.zv l) (hp:pre [92,117] l=false):jy (jk l)=if standB (nx l 0).1 then nx l 0 else (0,0):=by
 have hn:=pre2' (by omega) hp
 by_cases h0:l=[]
 ·subst h0
  rfl
 ·have hl:1≤l.length:=by cases l<;>simp_all
  have e0:nx l 0=U.yw l:=by unfold nx;rw[if_neg (by omega)];rfl
  rw[e0]
  by_cases h92:l.getD 0 0=92
  ·rw[sign_nou h0 h92 (fun c=>hn ⟨h92,c⟩),U.next_ascii hb h0 (by omega),h92]
   rfl
  ·rw[sign_raw h0 h92]
   have n92:(U.yw l).1≠92:=by
    intro c
    rcases U.Yo hb with ⟨e,_⟩|⟨_,e⟩|⟨r,hm,e,ht,_⟩
    ·exact h0 e
    ·rw[e]at c;simp at c
    ·rw[e]at c
     simp only at c
     subst c
     have e92:U.vz 92=[92]:=by decide
     rw[e92]at ht
     cases l with
     |nil=>exact h0 rfl
     |cons z t=>simp at ht;exact h92 (by simp[ht])
   unfold standB clsB
   by_cases c:(U.yw l).1<32∨(U.yw l).1=91∨(U.yw l).1=93∨(U.yw l).1=94∨(U.yw l).1=45
   ·rw[if_pos c,if_neg]
    simp
    omega
   ·rw[if_neg c,if_pos]
    simp
    omega
theorem nx_ok {l:List Int} (hb:U.zv l):((nx l 0).1= -1∨U.zo (nx l 0).1=true)∧(nx l 0).2≤l.length∧(0≤(nx l 0).1→1≤(nx l 0).2):=by
 by_cases h0:l=[]
 ·subst h0;exact⟨.inl rfl,Nat.le_refl _,fun h=>absurd h (by decide)⟩
 ·have hl:1≤l.length:=by cases l<;>simp_all
  have e0:nx l 0=U.yw l:=by unfold nx;rw[if_neg (by omega)];rfl
  rw[e0]
  have:=U.next_bound hb h0
  refine⟨?_,by omega,fun _=>by omega⟩
  rcases U.Yo hb with ⟨e,_⟩|⟨_,e⟩|⟨r,hm,e,_⟩
  ·exact absurd e h0
  ·rw[e];exact .inl rfl
  ·rw[e];exact .inr hm
theorem scalar_l (a:Option Addr) (len cap:Nat) (l:List Int) (w:World) (h:Bs w a len cap l) (hl:len≤1000000):
  Calls Tryz.prog 187 #[.slice a len cap] w fun e w'=>e= .returned (.tuple #[.int .i64 (jy (jk l)).1,.int .i64 ((jy (jk l)).2:Nat)])∧Below w.heap.size w w':=by
 have hlen:=h.hlen
 have CB:=zk (jK a len cap l w h ⟨#[92,117]⟩ [92,117] st_u (by simp))
 cases hp:pre [92,117] l with
 |true=>
  rw[hp]at CB
  have CD:=zk (fun W (hB:Bs W a len cap l)=>digitsScalar_l a len cap l W hB hl hp)
  have HB:=zk h
  clear h hp
  generalize (jy (jk l)).1=x at*
  generalize (jy (jk l)).2=n at*
  go_enter Tryz.func187,Tryz.ntmps187
  go_wp2_with fail
  refine(zq CB).mono ?_
  rintro e w1 ⟨rfl,b1⟩
  clear CB
  have HB1:=zk (Bs.later (zq HB) b1 (Nat.le_refl _))
  clear HB
  go_wp2_with fail
  refine(zq CD _ (zq HB1)).mono ?_
  rintro e w2 ⟨rfl,b2⟩
  clear CD
  go_wp2_with fail
  go_ret2
  exact⟨rfl,zY b1 b2⟩
 |false=>
  rw[hp]at CB
  have CN:=zk (fun W (hB:Bs W a len cap l)=>next_any a len cap l W hB 0)
  rw[sign_plain h.hbytes hp]
  obtain⟨n1,n2,n3⟩:=nx_ok h.hbytes
  have HB:=zk h
  clear h hp
  obtain⟨⟨x,n⟩,hx⟩:∃p,nx l 0=p:=⟨_,rfl⟩
  rw[hx]at CN n1 n2 n3⊢
  simp only at CN n1 n2 n3⊢
  clear hx
  have CS:=zk (fun W=>standsInClass_l x n1 W)
  cases hs:standB x with
  |true=>
   rw[hs]at CS
   show Calls _ _ _ _ fun e w'=>e= .returned (.tuple #[.int .i64 x,.int .i64 (n:Int)])∧Below w.heap.size w w'
   clear hs n1 n3
   go_enter Tryz.func187,Tryz.ntmps187
   go_wp2_with fail
   refine(zq CB).mono ?_
   rintro e w1 ⟨rfl,b1⟩
   clear CB
   have HB1:=zk (Bs.later (zq HB) b1 (Nat.le_refl _))
   clear HB
   go_wp2_with fail
   refine(zq CN _ (zq HB1)).mono ?_
   rintro e w2 ⟨rfl,b2⟩
   clear CN
   go_wp2_with fail
   refine(zq CS _).mono ?_
   rintro e w3 ⟨rfl,b3⟩
   clear CS
   go_wp2_with fail
   go_ret2
   exact⟨rfl,zY (zY b1 b2) b3⟩
  |false=>
   rw[hs]at CS
   show Calls _ _ _ _ fun e w'=>e= .returned (.tuple #[.int .i64 0,.int .i64 0])∧Below w.heap.size w w'
   clear hs n1 n3
   go_enter Tryz.func187,Tryz.ntmps187
   go_wp2_with fail
   refine(zq CB).mono ?_
   rintro e w1 ⟨rfl,b1⟩
   clear CB
   have HB1:=zk (Bs.later (zq HB) b1 (Nat.le_refl _))
   clear HB
   go_wp2_with fail
   refine(zq CN _ (zq HB1)).mono ?_
   rintro e w2 ⟨rfl,b2⟩
   clear CN
   go_wp2_with fail
   refine(zq CS _).mono ?_
   rintro e w3 ⟨rfl,b3⟩
   clear CS
   go_wp2_with fail
   go_ret2
   exact⟨rfl,zY (zY b1 b2) b3⟩
end Go.Proofs.YtcblkmlcbedomaaGreatDoor.T
/- Contracts of package token: the tokens that are names, marks, and signs. -/
namespace Go.Proofs.YtcblkmlcbedomaaGreatDoor.T
open Go.RowKit
theorem head_run (a:Option Addr) (len cap k:Nat) (i:Int) (hi:i=(k:Int)) (hk:k≤cap):∀W,(Instr.slice 137 (.slice a len cap) none (some (.int .i64 i)) none).run Tryz.prog W= .ok (.slice a k cap) W:=by
 intro W
 subst hi
 have hu:Tryz.prog.underlying 137=some (.slice 5):=Tryz.underlying137
 unfold Instr.slice
 cases a with
 |none=>simp[hu,run_underlying,Instr.sliceBounds,Instr.sliceBound,asIntOf,hk,Tryz.sizeOf5]
 |some x=>simp[hu,run_underlying,Instr.sliceBounds,Instr.sliceBound,asIntOf,hk,Tryz.sizeOf5,Addr.add]
theorem Bs.head {w:World} {a:Option Addr} {len cap:Nat} {l:List Int} (h:Bs w a len cap l) (k:Nat) (hk:k≤len):Bs w a k cap (l.take k):=by
 have h1:=h.hcap
 refine⟨by rw[List.length_take,h.hlen];omega,by omega,h.hmax,fun z hz=>h.hbytes z (List.mem_of_mem_take hz),fun i hi=> ?_⟩
 obtain⟨b,off,ha,hc⟩:=h.hcell i (by omega)
 refine⟨b,off,ha,?_⟩
 rw[hc]
 simp[List.getD,hi]
theorem tstr {w:World} {a:Option Addr} {len cap:Nat} {l:List Int} (h:Bs w a len cap l):
  (convert 137 9 (.slice a len cap)).run Tryz.prog w= .ok (.string (strOfNums l)) w:=by
 by_cases hp:1≤len
 ·obtain⟨b,off,rfl,hb⟩:=h.open hp
  exact run_convert_bytes_arg w 137 5 Tryz.underlying137 Tryz.underlying5 b off len cap l hb.hlen hb.hcell 9 Tryz.underlying9
 ·have h0:len=0:=by omega
  have hl:=h.hlen
  subst h0
  have:l=[]:=List.eq_nil_of_length_eq_zero hl
  subst this
  cases a with
  |none=>exact run_convert_bytes_nil w 137 5 Tryz.underlying137 Tryz.underlying5 0 cap 9 Tryz.underlying9
  |some x=>
   rw[run_convert_bytes_string w 137 9 5 _ 0 cap Tryz.underlying137 Tryz.underlying5 Tryz.underlying9,run_bytesToString w x 0 cap [] (loadCells0 w x)]
   rfl
theorem ze {w w1:World} {o:Obj} (b:Below (w.alloc o).heap.size (w.alloc o) w1):w1.heap[w.heap.size]? =some o:=by
 rw[b.block _ (by simp)]
 exact heap_alloc_new w o
/-! ### What is told of a token -/
def kY:Value:= .agg #[.int .i64 0,.string ⟨#[]⟩,.slice none 0 0,.int .i64 0]
def Ty (w:World) (a:Option Addr):Prop:=∀b off,a=some ⟨b,off,none⟩→∃cs fr,w.heap[b]? =some (.cells cs 51 fr)
theorem Ty.later {w w':World} {a:Option Addr} (h:Ty w a) (b:Below w.heap.size w w'):Ty w' a:=by
 intro k off e
 obtain⟨cs,fr,hk⟩:=h k off e
 exact⟨cs,fr,(b.block k (Array.getElem?_eq_some_iff.1 hk).1).trans hk⟩
theorem Ty.nil (w:World):Ty w none:=fun _ _ e=>by cases e
def TokV (w:World) (v:Value) (t:Tk) (p:Int):Prop:=∃a c,v= .agg #[.int .i64 t.1,.string (strOfNums t.2.1),.slice a t.2.2.length c,.int .i64 p]∧Rs w a t.2.2.length c t.2.2∧Ty w a
def TokO (w:World) (v:Value) (n:Nat) (o:Option (Tk×Nat)):Prop:=(o=none∧v=kY∧n=0)∨∃t,o=some (t,n)∧TokV w v t 0
theorem TokV.later {w w':World} {v:Value} {t:Tk} {p:Int} (h:TokV w v t p) (b:Below w.heap.size w w'):TokV w' v t p:=by
 obtain⟨a,c,e,hr,ht⟩:=h
 exact⟨a,c,e,hr.later b (Nat.le_refl _),ht.later b⟩
theorem TokV.plain (w:World) (k:Int) (x:List Int) (p:Int):TokV w (.agg #[.int .i64 k,.string (strOfNums x),.slice none 0 0,.int .i64 p]) (k,x,[]) p:=
 ⟨none,0,rfl,Rs.nil w,Ty.nil w⟩
theorem tok_name {l:List Int} (h:xi (l.getD 0 0)=true):xJ l=if 12<yY l then none else some ((0,l.take (yY l),[]),yY l):=by unfold xJ;rw[if_pos h]
theorem tail_len:∀l:List Int,vQ l≤l.length:=by
 intro l
 induction l with
 |nil=>simp[vQ]
 |cons z t ih=>simp only[vQ];split<;>simp<;>omega
theorem word_len (l:List Int):yY l≤l.length:=by
 unfold yY
 split
 ·next h=>
  have h0:l≠[]:=by intro c;rw[c]at h;exact absurd h (by decide)
  have hl:1≤l.length:=by cases l<;>simp_all
  have:=tail_len (l.drop 1)
  rw[List.length_drop]at this
  omega
 ·omega
theorem name_l (a:Option Addr) (len cap:Nat) (l:List Int) (w:World) (h:Bs w a len cap l) (hl:len≤1000000) (h0:xi (l.getD 0 0)=true):
  Calls Tryz.prog 140 #[.slice a len cap] w fun e w'=>∃v n,e= .returned (.tuple #[v,.int .i64 (n:Nat)])∧TokO w' v n (xJ l)∧Below w.heap.size w w':=by
 rw[tok_name h0]
 have hlen:=h.hlen
 have hcap:=h.hcap
 have hwl:=word_len l
 have CN:=zk (fun o=>nameBytes_l a len cap l (w.alloc o) (Bs.later h (Below.new1 o) (Nat.le_refl _)) hl)
 have hr:=head_run a len cap (yY l) (yY l) rfl (by omega)
 have hs:=fun o=>tstr (Bs.later (Bs.head h (yY l) (by omega)) (Below.new1 (w:=w) o) (Nat.le_refl _))
 have HT:=zk (fun(W:World)=>TokV.plain W 0 (l.take (yY l)) 0)
 clear h h0
 generalize strOfNums (l.take (yY l))=S at*
 generalize l.take (yY l)=x at*
 generalize yY l=m at*
 by_cases c:12<m
 ·rw[if_pos c]
  go_enter Tryz.func140,Tryz.ntmps140
  go_wp2_with fail
  refine(zq CN _).mono ?_
  rintro e w1 ⟨rfl,rfl⟩
  go_wp2_with fail
  (try simp only[Exit.inBlock,Exit.then])
  refine bodyPost_ret (v:= .tuple #[kY,.int .i64 (0:Nat)]) ?_ rfl ⟨_,_,rfl,.inl ⟨rfl,rfl,rfl⟩,?_⟩
  ·rw[results_cell_tmp rfl]
   go_simp
   rfl
  ·exact Below.new1 _
 ·rw[if_neg c]
  go_enter Tryz.func140,Tryz.ntmps140
  go_wp2_with fail
  refine(zq CN _).mono ?_
  rintro e w1 ⟨rfl,rfl⟩
  go_wp2_with fail
  (try simp only[Exit.inBlock,Exit.then])
  refine bodyPost_ret (v:= .tuple #[.agg #[.int .i64 0,.string S,.slice none 0 0,.int .i64 0],.int .i64 (m:Nat)]) ?_ rfl ⟨_,_,rfl,.inr ⟨_,rfl,zq HT _⟩,?_⟩
  ·rw[results_cell_tmp rfl]
   go_simp
  ·exact Below.new1 _
theorem tok_sign {l:List Int} (h:l.getD 0 0∈signs):xJ l=some ((4,l.take 1,[]),1):=by
 have hb:l.getD 0 0≠0:=by intro c;rw[c]at h;exact absurd h (by decide)
 have h1:xi (l.getD 0 0)=false:=by
  have:∀z∈signs,xi z=false:=by decide
  exact this _ h
 have h2:¬l.getD 0 0=64:=by
  have:∀z∈signs,¬z=64:=by decide
  exact this _ h
 unfold xJ
 rw[h1,if_neg (by simp),if_neg h2,if_pos h]
 cases l with
 |nil=>exact absurd rfl hb
 |cons z t=>simp
theorem ZW (a:Option Addr) (len cap:Nat) (l:List Int) (w:World) (h:Bs w a len cap l) (hl:1≤len) (h0:l.getD 0 0∈signs):
  Calls Tryz.prog 141 #[.slice a len cap] w fun e w'=>∃v n,e= .returned (.tuple #[v,.int .i64 (n:Nat)])∧TokO w' v n (xJ l)∧Below w.heap.size w w':=by
 rw[tok_sign h0]
 have hr:=head_run a len cap 1 1 rfl (by have:=h.hcap;omega)
 have hs:=fun o=>tstr (Bs.later (Bs.head h 1 hl) (Below.new1 (w:=w) o) (Nat.le_refl _))
 have HT:=zk (fun(W:World)=>TokV.plain W 4 (l.take 1) 0)
 clear h h0
 generalize strOfNums (l.take 1)=S at*
 generalize l.take 1=x at*
 go_enter Tryz.func141,Tryz.ntmps141
 go_wp2_with fail
 (try simp only[Exit.inBlock,Exit.then])
 refine bodyPost_ret (v:= .tuple #[.agg #[.int .i64 4,.string S,.slice none 0 0,.int .i64 0],.int .i64 (1:Nat)]) ?_ rfl ⟨_,_,rfl,.inr ⟨_,rfl,zq HT _⟩,?_⟩
 ·rw[results_cell_tmp rfl]
  go_simp
 ·exact Below.new1 _
theorem tok_mark {l:List Int} (h:l.getD 0 0=64):xJ l=if markL ((l.drop 1).take (yY (l.drop 1)))then some ((5,(l.drop 1).take (yY (l.drop 1)),[]),yY (l.drop 1)+1)else none:=by
 unfold xJ markL
 rw[h,if_neg (by decide),if_pos rfl]
 by_cases c:(l.drop 1).take (yY (l.drop 1))∈marks
 ·rw[if_pos c,if_pos (decide_eq_true c)]
 ·rw[if_neg c,if_neg (by rw[decide_eq_false c];simp)]
theorem mark_l (a:Option Addr) (len cap:Nat) (l:List Int) (w:World) (h:Bs w a len cap l) (hl:len≤1000000) (hp:1≤len) (h0:l.getD 0 0=64):
  Calls Tryz.prog 136 #[.slice a len cap] w fun e w'=>∃v n,e= .returned (.tuple #[v,.int .i64 (n:Nat)])∧TokO w' v n (xJ l)∧Below w.heap.size w w':=by
 rw[tok_mark h0]
 have hlen:=h.hlen
 have hcap:=h.hcap
 have hwl:=word_len (l.drop 1)
 rw[List.length_drop]at hwl
 have hd:=Bs.dropA h 1 hp
 have sl:=xk a len cap 1 1 rfl hp
 have CN:=zk (fun o=>nameBytes_l _ _ _ _ (w.alloc o) (Bs.later hd (Below.new1 o) (Nat.le_refl _)) (by omega))
 have hr:=head_run (dropA a cap 1) (len-1) (cap-1) (yY (l.drop 1)) (yY (l.drop 1)) rfl (by omega)
 have hdh:=Bs.head hd (yY (l.drop 1)) (by omega)
 have hs:=fun o=>tstr (Bs.later hdh (Below.new1 (w:=w) o) (Nat.le_refl _))
 have CM:=zk (fun W=>isMark_l _ _ (St.of hdh.hbytes) W)
 have HT:=zk (fun(W:World)=>TokV.plain W 5 ((l.drop 1).take (yY (l.drop 1))) 0)
 clear h h0 hdh hd
 generalize strOfNums ((l.drop 1).take (yY (l.drop 1)))=S at*
 generalize (l.drop 1).take (yY (l.drop 1))=x at*
 generalize yY (l.drop 1)=m at*
 have t1:=kQ (1+(m:Int)) (by omega)
 cases c:markL x with
 |false=>
  rw[c]at CM
  rw[if_neg (by simp)]
  go_enter Tryz.func136,Tryz.ntmps136
  go_wp2_with fail
  refine(zq CN _).mono ?_
  rintro e w1 ⟨rfl,rfl⟩
  go_wp2_with fail
  refine(zq CM _).mono ?_
  rintro e w1 ⟨rfl,rfl⟩
  go_wp2_with fail
  (try simp only[Exit.inBlock,Exit.then])
  refine bodyPost_ret (v:= .tuple #[kY,.int .i64 (0:Nat)]) ?_ rfl ⟨_,_,rfl,.inl ⟨rfl,rfl,rfl⟩,?_⟩
  ·rw[results_cell_tmp rfl]
   go_simp
   rfl
  ·exact Below.new1 _
 |true=>
  rw[c]at CM
  rw[if_pos rfl]
  go_enter Tryz.func136,Tryz.ntmps136
  go_wp2_with fail
  refine(zq CN _).mono ?_
  rintro e w1 ⟨rfl,rfl⟩
  go_wp2_with fail
  refine(zq CM _).mono ?_
  rintro e w1 ⟨rfl,rfl⟩
  go_wp2_with fail
  (try simp only[Exit.inBlock,Exit.then])
  refine bodyPost_ret (v:= .tuple #[.agg #[.int .i64 5,.string S,.slice none 0 0,.int .i64 0],.int .i64 ((m+1:Nat):Int)]) ?_ rfl ⟨_,_,rfl,.inr ⟨_,rfl,zq HT _⟩,?_⟩
  ·rw[results_cell_tmp rfl]
   go_simp
   omega
  ·exact Below.new1 _
def pairI (p:Option ((Int×Int)×Nat)):(Int×Int)×Nat:=p.getD ((0,0),0)
theorem st_dash:St ⟨#[45]⟩ [45]:=⟨rfl,by intro z hz;simp at hz;omega⟩
theorem itemH_end (a:Option Addr) (len cap:Nat) (l:List Int) (w:World) (h:Bs w a len cap l) (hl:len≤1000000):
  Calls Tryz.prog 191 #[.slice a len cap] w fun e w'=>e= .returned (.tuple #[.int .i64 (jy (ja true l)).1,.int .i64 ((jy (ja true l)).2:Nat)])∧Below w.heap.size w w':=
 (hex_l a len cap l w h hl).mono fun _ _ h=>⟨h.1,by rw[h.2];exact Below.refl _ _⟩
theorem itemS_end (a:Option Addr) (len cap:Nat) (l:List Int) (w:World) (h:Bs w a len cap l) (hl:len≤1000000):
  Calls Tryz.prog 187 #[.slice a len cap] w fun e w'=>e= .returned (.tuple #[.int .i64 (jy (ja false l)).1,.int .i64 ((jy (ja false l)).2:Nat)])∧Below w.heap.size w w':=
 scalar_l a len cap l w h hl
theorem itemH (a:Option Addr) (len cap:Nat) (l:List Int) (w:World) (h:Bs w a len cap l) (hl:len≤1000000):
  Calls Tryz.prog 213 #[.slice a len cap,.func (.func 191) #[] #[]] w fun e w'=>e= .returned (.tuple #[.agg #[.int .i64 (pairI (yz true l)).1.1,.int .i64 (pairI (yz true l)).1.2],.int .i64 ((pairI (yz true l)).2:Nat)])∧Below w.heap.size w w':=by
 have hlen:=h.hlen
 have HB:=zk (Bs.later h (Below.new1 (.cells #[.int .i64 0,.int .i64 0] 51)) (Nat.le_refl _))
 have CE:=zk (fun W (hB:Bs W a len cap l)=>itemH_end a len cap l W hB hl)
 cases e1:ja true l with
 |none=>
  have ei:yz true l=none:=by unfold yz;rw[e1]
  rw[ei]
  rw[e1]at CE
  show Calls _ _ _ _ fun e w'=>e= .returned (.tuple #[.agg #[.int .i64 0,.int .i64 0],.int .i64 0])∧Below w.heap.size w w'
  replace CE:Hid (∀W,Bs W a len cap l→Calls Tryz.prog 191 #[.slice a len cap] W fun e w'=>e= .returned (.tuple #[.int .i64 0,.int .i64 0])∧Below W.heap.size W w'):=CE
  clear e1 ei h
  go_enter Tryz.func213,Tryz.ntmps213
  go_wp2_with fail
  refine(zq CE _ (zq HB)).mono ?_
  rintro e w1 ⟨rfl,b1⟩
  clear CE HB
  have HG:=ze b1
  have q0:w1.cell? ⟨w.heap.size,0,none⟩=some (.int .i64 0):=by simp[World.cell?,HG]
  have q1:w1.cell? ⟨w.heap.size,1,none⟩=some (.int .i64 0):=by simp[World.cell?,HG]
  have f0:w1.frozen? ⟨w.heap.size,0,none⟩=false:=by simp[World.frozen?,HG]
  have f1:w1.frozen? ⟨w.heap.size,1,none⟩=false:=by simp[World.frozen?,HG]
  go_wp2_with fail
  (try simp only[Exit.inBlock,Exit.then])
  refine bodyPost_ret (v:= .tuple #[.agg #[.int .i64 0,.int .i64 0],.int .i64 (0)]) ?_ rfl ⟨rfl,?_⟩
  ·rw[results_cell_tmp rfl]
   go_simp
   try omega
  ·exact Below.setCell (Below.setCell ((Below.new1 _).trans (b1.mono (by simp))) (Nat.le_refl _) _) (Nat.le_refl _) _
 |some p=>
  obtain⟨lo,n⟩:=p
  have gd:=YY true l lo n h.hbytes e1
  rw[e1]at CE
  replace CE:Hid (∀W,Bs W a len cap l→Calls Tryz.prog 191 #[.slice a len cap] W fun e w'=>e= .returned (.tuple #[.int .i64 lo,.int .i64 (n:Int)])∧Below W.heap.size W w'):=CE
  have sl:=xk a len cap n n rfl (by omega)
  have CB:=zk (fun W (hB:Bs W a len cap l)=>jK _ _ _ _ W (Bs.dropA hB n (by omega)) ⟨#[45]⟩ [45] st_dash (by simp))
  rw[Zk (by omega)]at CB
  have t0:((n:Int)==0)=false:=beq_eq_false_iff_ne.2 (by omega)
  by_cases c1:(l.drop n).getD 0 0=45
  ·rw[decide_eq_true c1]at CB
   have hn1:n+1≤len:=by
    apply Classical.byContradiction
    intro cc
    have:l.drop n=[]:=List.drop_of_length_le (by omega)
    rw[this]at c1
    simp[List.getD]at c1
   have t1:=kQ ((n:Int)+1) (by omega)
   have sl2:=xk a len cap (n+1) ((n:Int)+1) (by omega) hn1
   have CF:=zk (fun W (hB:Bs W a len cap l)=>itemH_end _ _ _ _ W (Bs.dropA hB (n+1) hn1) (by omega))
   cases e2:ja true (l.drop (n+1))with
   |none=>
    have ei:yz true l=none:=by unfold yz;rw[e1];simp only;rw[if_pos c1,e2]
    rw[ei]
    rw[e2]at CF
    show Calls _ _ _ _ fun e w'=>e= .returned (.tuple #[.agg #[.int .i64 0,.int .i64 0],.int .i64 0])∧Below w.heap.size w w'
    replace CF:Hid (∀W,Bs W a len cap l→Calls Tryz.prog 191 #[.slice (dropA a cap (n+1)) (len-(n+1)) (cap-(n+1))] W fun e w'=>e= .returned (.tuple #[.int .i64 0,.int .i64 0])∧Below W.heap.size W w'):=CF
    clear e1 e2 ei h c1
    go_enter Tryz.func213,Tryz.ntmps213
    go_wp2_with fail
    refine(zq CE _ (zq HB)).mono ?_
    rintro e w1 ⟨rfl,b1⟩
    have HB1:=zk (Bs.later (zq HB) b1 (Nat.le_refl _))
    clear HB CE
    go_wp2_with fail
    refine(zq CB _ (zq HB1)).mono ?_
    rintro e w2 ⟨rfl,b2⟩
    clear CB
    have HB2:=zk (Bs.later (zq HB1) b2 (Nat.le_refl _))
    clear HB1
    go_wp2_with fail
    refine(zq CF _ (zq HB2)).mono ?_
    rintro e w3 ⟨rfl,b3⟩
    clear CF HB2
    have B3:=zY (zY b1 b2) b3
    have HG:=ze B3
    have q0:w3.cell? ⟨w.heap.size,0,none⟩=some (.int .i64 0):=by simp[World.cell?,HG]
    have q1:w3.cell? ⟨w.heap.size,1,none⟩=some (.int .i64 0):=by simp[World.cell?,HG]
    have f0:w3.frozen? ⟨w.heap.size,0,none⟩=false:=by simp[World.frozen?,HG]
    have f1:w3.frozen? ⟨w.heap.size,1,none⟩=false:=by simp[World.frozen?,HG]
    go_wp2_with fail
    (try simp only[Exit.inBlock,Exit.then])
    refine bodyPost_ret (v:= .tuple #[.agg #[.int .i64 0,.int .i64 0],.int .i64 (0)]) ?_ rfl ⟨rfl,?_⟩
    ·rw[results_cell_tmp rfl]
     go_simp
     try omega
    ·exact Below.setCell (Below.setCell ((Below.new1 _).trans (B3.mono (by simp))) (Nat.le_refl _) _) (Nat.le_refl _) _
   |some q=>
    obtain⟨hi,m⟩:=q
    have gd2:=YY true _ hi m (U.zZ h.hbytes (n+1)) e2
    rw[List.length_drop]at gd2
    rw[e2]at CF
    replace CF:Hid (∀W,Bs W a len cap l→Calls Tryz.prog 191 #[.slice (dropA a cap (n+1)) (len-(n+1)) (cap-(n+1))] W fun e w'=>e= .returned (.tuple #[.int .i64 hi,.int .i64 (m:Int)])∧Below W.heap.size W w'):=CF
    have t2:((m:Int)==0)=false:=beq_eq_false_iff_ne.2 (by omega)
    have t3:=kQ ((n:Int)+1+m) (by omega)
    by_cases c2:hi<lo
    ·have ei:yz true l=none:=by unfold yz;rw[e1];simp only;rw[if_pos c1,e2];simp only;rw[if_pos c2]
     rw[ei]
     show Calls _ _ _ _ fun e w'=>e= .returned (.tuple #[.agg #[.int .i64 0,.int .i64 0],.int .i64 0])∧Below w.heap.size w w'
     clear e1 e2 ei h c1
     go_enter Tryz.func213,Tryz.ntmps213
     go_wp2_with fail
     refine(zq CE _ (zq HB)).mono ?_
     rintro e w1 ⟨rfl,b1⟩
     have HB1:=zk (Bs.later (zq HB) b1 (Nat.le_refl _))
     clear HB CE
     go_wp2_with fail
     refine(zq CB _ (zq HB1)).mono ?_
     rintro e w2 ⟨rfl,b2⟩
     clear CB
     have HB2:=zk (Bs.later (zq HB1) b2 (Nat.le_refl _))
     clear HB1
     go_wp2_with fail
     refine(zq CF _ (zq HB2)).mono ?_
     rintro e w3 ⟨rfl,b3⟩
     clear CF HB2
     have B3:=zY (zY b1 b2) b3
     have HG:=ze B3
     have q0:w3.cell? ⟨w.heap.size,0,none⟩=some (.int .i64 0):=by simp[World.cell?,HG]
     have q1:w3.cell? ⟨w.heap.size,1,none⟩=some (.int .i64 0):=by simp[World.cell?,HG]
     have f0:w3.frozen? ⟨w.heap.size,0,none⟩=false:=by simp[World.frozen?,HG]
     have f1:w3.frozen? ⟨w.heap.size,1,none⟩=false:=by simp[World.frozen?,HG]
     go_wp2_with fail
     (try simp only[Exit.inBlock,Exit.then])
     refine bodyPost_ret (v:= .tuple #[.agg #[.int .i64 0,.int .i64 0],.int .i64 (0)]) ?_ rfl ⟨rfl,?_⟩
     ·rw[results_cell_tmp rfl]
      go_simp
      try omega
     ·exact Below.setCell (Below.setCell ((Below.new1 _).trans (B3.mono (by simp))) (Nat.le_refl _) _) (Nat.le_refl _) _
    ·have ei:yz true l=some ((lo,hi),n+1+m):=by unfold yz;rw[e1];simp only;rw[if_pos c1,e2];simp only;rw[if_neg c2]
     rw[ei]
     show Calls _ _ _ _ fun e w'=>e= .returned (.tuple #[.agg #[.int .i64 lo,.int .i64 hi],.int .i64 ((n+1+m:Nat):Int)])∧Below w.heap.size w w'
     have c2':lo≤hi:=by omega
     clear e1 e2 ei h c1
     go_enter Tryz.func213,Tryz.ntmps213
     go_wp2_with fail
     refine(zq CE _ (zq HB)).mono ?_
     rintro e w1 ⟨rfl,b1⟩
     have HB1:=zk (Bs.later (zq HB) b1 (Nat.le_refl _))
     clear HB CE
     go_wp2_with fail
     refine(zq CB _ (zq HB1)).mono ?_
     rintro e w2 ⟨rfl,b2⟩
     clear CB
     have HB2:=zk (Bs.later (zq HB1) b2 (Nat.le_refl _))
     clear HB1
     go_wp2_with fail
     refine(zq CF _ (zq HB2)).mono ?_
     rintro e w3 ⟨rfl,b3⟩
     clear CF HB2
     have B3:=zY (zY b1 b2) b3
     have HG:=ze B3
     have q0:w3.cell? ⟨w.heap.size,0,none⟩=some (.int .i64 0):=by simp[World.cell?,HG]
     have q1:w3.cell? ⟨w.heap.size,1,none⟩=some (.int .i64 0):=by simp[World.cell?,HG]
     have f0:w3.frozen? ⟨w.heap.size,0,none⟩=false:=by simp[World.frozen?,HG]
     have f1:w3.frozen? ⟨w.heap.size,1,none⟩=false:=by simp[World.frozen?,HG]
     go_wp2_with fail
     (try simp only[Exit.inBlock,Exit.then])
     refine bodyPost_ret (v:= .tuple #[.agg #[.int .i64 lo,.int .i64 hi],.int .i64 (((n+1+m:Nat):Int))]) ?_ rfl ⟨rfl,?_⟩
     ·rw[results_cell_tmp rfl]
      go_simp
      try omega
     ·exact Below.setCell (Below.setCell ((Below.new1 _).trans (B3.mono (by simp))) (Nat.le_refl _) _) (Nat.le_refl _) _
  ·rw[decide_eq_false c1]at CB
   have ei:yz true l=some ((lo,lo),n):=by unfold yz;rw[e1];simp only;rw[if_neg c1]
   rw[ei]
   show Calls _ _ _ _ fun e w'=>e= .returned (.tuple #[.agg #[.int .i64 lo,.int .i64 lo],.int .i64 (n:Int)])∧Below w.heap.size w w'
   clear e1 ei h c1
   go_enter Tryz.func213,Tryz.ntmps213
   go_wp2_with fail
   refine(zq CE _ (zq HB)).mono ?_
   rintro e w1 ⟨rfl,b1⟩
   have HB1:=zk (Bs.later (zq HB) b1 (Nat.le_refl _))
   clear HB CE
   go_wp2_with fail
   refine(zq CB _ (zq HB1)).mono ?_
   rintro e w2 ⟨rfl,b2⟩
   clear CB
   clear HB1
   have B2:=zY b1 b2
   have HG:=ze B2
   have q0:w2.cell? ⟨w.heap.size,0,none⟩=some (.int .i64 0):=by simp[World.cell?,HG]
   have q1:w2.cell? ⟨w.heap.size,1,none⟩=some (.int .i64 0):=by simp[World.cell?,HG]
   have f0:w2.frozen? ⟨w.heap.size,0,none⟩=false:=by simp[World.frozen?,HG]
   have f1:w2.frozen? ⟨w.heap.size,1,none⟩=false:=by simp[World.frozen?,HG]
   go_wp2_with fail
   (try simp only[Exit.inBlock,Exit.then])
   refine bodyPost_ret (v:= .tuple #[.agg #[.int .i64 lo,.int .i64 lo],.int .i64 ((n:Int))]) ?_ rfl ⟨rfl,?_⟩
   ·rw[results_cell_tmp rfl]
    go_simp
    try omega
   ·exact Below.setCell (Below.setCell ((Below.new1 _).trans (B2.mono (by simp))) (Nat.le_refl _) _) (Nat.le_refl _) _
theorem itemS (a:Option Addr) (len cap:Nat) (l:List Int) (w:World) (h:Bs w a len cap l) (hl:len≤1000000):
  Calls Tryz.prog 213 #[.slice a len cap,.func (.func 187) #[] #[]] w fun e w'=>e= .returned (.tuple #[.agg #[.int .i64 (pairI (yz false l)).1.1,.int .i64 (pairI (yz false l)).1.2],.int .i64 ((pairI (yz false l)).2:Nat)])∧Below w.heap.size w w':=by
 have hlen:=h.hlen
 have HB:=zk (Bs.later h (Below.new1 (.cells #[.int .i64 0,.int .i64 0] 51)) (Nat.le_refl _))
 have CE:=zk (fun W (hB:Bs W a len cap l)=>itemS_end a len cap l W hB hl)
 cases e1:ja false l with
 |none=>
  have ei:yz false l=none:=by unfold yz;rw[e1]
  rw[ei]
  rw[e1]at CE
  show Calls _ _ _ _ fun e w'=>e= .returned (.tuple #[.agg #[.int .i64 0,.int .i64 0],.int .i64 0])∧Below w.heap.size w w'
  replace CE:Hid (∀W,Bs W a len cap l→Calls Tryz.prog 187 #[.slice a len cap] W fun e w'=>e= .returned (.tuple #[.int .i64 0,.int .i64 0])∧Below W.heap.size W w'):=CE
  clear e1 ei h
  go_enter Tryz.func213,Tryz.ntmps213
  go_wp2_with fail
  refine(zq CE _ (zq HB)).mono ?_
  rintro e w1 ⟨rfl,b1⟩
  clear CE HB
  have HG:=ze b1
  have q0:w1.cell? ⟨w.heap.size,0,none⟩=some (.int .i64 0):=by simp[World.cell?,HG]
  have q1:w1.cell? ⟨w.heap.size,1,none⟩=some (.int .i64 0):=by simp[World.cell?,HG]
  have f0:w1.frozen? ⟨w.heap.size,0,none⟩=false:=by simp[World.frozen?,HG]
  have f1:w1.frozen? ⟨w.heap.size,1,none⟩=false:=by simp[World.frozen?,HG]
  go_wp2_with fail
  (try simp only[Exit.inBlock,Exit.then])
  refine bodyPost_ret (v:= .tuple #[.agg #[.int .i64 0,.int .i64 0],.int .i64 (0)]) ?_ rfl ⟨rfl,?_⟩
  ·rw[results_cell_tmp rfl]
   go_simp
   try omega
  ·exact Below.setCell (Below.setCell ((Below.new1 _).trans (b1.mono (by simp))) (Nat.le_refl _) _) (Nat.le_refl _) _
 |some p=>
  obtain⟨lo,n⟩:=p
  have gd:=YY false l lo n h.hbytes e1
  rw[e1]at CE
  replace CE:Hid (∀W,Bs W a len cap l→Calls Tryz.prog 187 #[.slice a len cap] W fun e w'=>e= .returned (.tuple #[.int .i64 lo,.int .i64 (n:Int)])∧Below W.heap.size W w'):=CE
  have sl:=xk a len cap n n rfl (by omega)
  have CB:=zk (fun W (hB:Bs W a len cap l)=>jK _ _ _ _ W (Bs.dropA hB n (by omega)) ⟨#[45]⟩ [45] st_dash (by simp))
  rw[Zk (by omega)]at CB
  have t0:((n:Int)==0)=false:=beq_eq_false_iff_ne.2 (by omega)
  by_cases c1:(l.drop n).getD 0 0=45
  ·rw[decide_eq_true c1]at CB
   have hn1:n+1≤len:=by
    apply Classical.byContradiction
    intro cc
    have:l.drop n=[]:=List.drop_of_length_le (by omega)
    rw[this]at c1
    simp[List.getD]at c1
   have t1:=kQ ((n:Int)+1) (by omega)
   have sl2:=xk a len cap (n+1) ((n:Int)+1) (by omega) hn1
   have CF:=zk (fun W (hB:Bs W a len cap l)=>itemS_end _ _ _ _ W (Bs.dropA hB (n+1) hn1) (by omega))
   cases e2:ja false (l.drop (n+1))with
   |none=>
    have ei:yz false l=none:=by unfold yz;rw[e1];simp only;rw[if_pos c1,e2]
    rw[ei]
    rw[e2]at CF
    show Calls _ _ _ _ fun e w'=>e= .returned (.tuple #[.agg #[.int .i64 0,.int .i64 0],.int .i64 0])∧Below w.heap.size w w'
    replace CF:Hid (∀W,Bs W a len cap l→Calls Tryz.prog 187 #[.slice (dropA a cap (n+1)) (len-(n+1)) (cap-(n+1))] W fun e w'=>e= .returned (.tuple #[.int .i64 0,.int .i64 0])∧Below W.heap.size W w'):=CF
    clear e1 e2 ei h c1
    go_enter Tryz.func213,Tryz.ntmps213
    go_wp2_with fail
    refine(zq CE _ (zq HB)).mono ?_
    rintro e w1 ⟨rfl,b1⟩
    have HB1:=zk (Bs.later (zq HB) b1 (Nat.le_refl _))
    clear HB CE
    go_wp2_with fail
    refine(zq CB _ (zq HB1)).mono ?_
    rintro e w2 ⟨rfl,b2⟩
    clear CB
    have HB2:=zk (Bs.later (zq HB1) b2 (Nat.le_refl _))
    clear HB1
    go_wp2_with fail
    refine(zq CF _ (zq HB2)).mono ?_
    rintro e w3 ⟨rfl,b3⟩
    clear CF HB2
    have B3:=zY (zY b1 b2) b3
    have HG:=ze B3
    have q0:w3.cell? ⟨w.heap.size,0,none⟩=some (.int .i64 0):=by simp[World.cell?,HG]
    have q1:w3.cell? ⟨w.heap.size,1,none⟩=some (.int .i64 0):=by simp[World.cell?,HG]
    have f0:w3.frozen? ⟨w.heap.size,0,none⟩=false:=by simp[World.frozen?,HG]
    have f1:w3.frozen? ⟨w.heap.size,1,none⟩=false:=by simp[World.frozen?,HG]
    go_wp2_with fail
    (try simp only[Exit.inBlock,Exit.then])
    refine bodyPost_ret (v:= .tuple #[.agg #[.int .i64 0,.int .i64 0],.int .i64 (0)]) ?_ rfl ⟨rfl,?_⟩
    ·rw[results_cell_tmp rfl]
     go_simp
     try omega
    ·exact Below.setCell (Below.setCell ((Below.new1 _).trans (B3.mono (by simp))) (Nat.le_refl _) _) (Nat.le_refl _) _
   |some q=>
    obtain⟨hi,m⟩:=q
    have gd2:=YY false _ hi m (U.zZ h.hbytes (n+1)) e2
    rw[List.length_drop]at gd2
    rw[e2]at CF
    replace CF:Hid (∀W,Bs W a len cap l→Calls Tryz.prog 187 #[.slice (dropA a cap (n+1)) (len-(n+1)) (cap-(n+1))] W fun e w'=>e= .returned (.tuple #[.int .i64 hi,.int .i64 (m:Int)])∧Below W.heap.size W w'):=CF
    have t2:((m:Int)==0)=false:=beq_eq_false_iff_ne.2 (by omega)
    have t3:=kQ ((n:Int)+1+m) (by omega)
    by_cases c2:hi<lo
    ·have ei:yz false l=none:=by unfold yz;rw[e1];simp only;rw[if_pos c1,e2];simp only;rw[if_pos c2]
     rw[ei]
     show Calls _ _ _ _ fun e w'=>e= .returned (.tuple #[.agg #[.int .i64 0,.int .i64 0],.int .i64 0])∧Below w.heap.size w w'
     clear e1 e2 ei h c1
     go_enter Tryz.func213,Tryz.ntmps213
     go_wp2_with fail
     refine(zq CE _ (zq HB)).mono ?_
     rintro e w1 ⟨rfl,b1⟩
     have HB1:=zk (Bs.later (zq HB) b1 (Nat.le_refl _))
     clear HB CE
     go_wp2_with fail
     refine(zq CB _ (zq HB1)).mono ?_
     rintro e w2 ⟨rfl,b2⟩
     clear CB
     have HB2:=zk (Bs.later (zq HB1) b2 (Nat.le_refl _))
     clear HB1
     go_wp2_with fail
     refine(zq CF _ (zq HB2)).mono ?_
     rintro e w3 ⟨rfl,b3⟩
     clear CF HB2
     have B3:=zY (zY b1 b2) b3
     have HG:=ze B3
     have q0:w3.cell? ⟨w.heap.size,0,none⟩=some (.int .i64 0):=by simp[World.cell?,HG]
     have q1:w3.cell? ⟨w.heap.size,1,none⟩=some (.int .i64 0):=by simp[World.cell?,HG]
     have f0:w3.frozen? ⟨w.heap.size,0,none⟩=false:=by simp[World.frozen?,HG]
     have f1:w3.frozen? ⟨w.heap.size,1,none⟩=false:=by simp[World.frozen?,HG]
     go_wp2_with fail
     (try simp only[Exit.inBlock,Exit.then])
     refine bodyPost_ret (v:= .tuple #[.agg #[.int .i64 0,.int .i64 0],.int .i64 (0)]) ?_ rfl ⟨rfl,?_⟩
     ·rw[results_cell_tmp rfl]
      go_simp
      try omega
     ·exact Below.setCell (Below.setCell ((Below.new1 _).trans (B3.mono (by simp))) (Nat.le_refl _) _) (Nat.le_refl _) _
    ·have ei:yz false l=some ((lo,hi),n+1+m):=by unfold yz;rw[e1];simp only;rw[if_pos c1,e2];simp only;rw[if_neg c2]
     rw[ei]
     show Calls _ _ _ _ fun e w'=>e= .returned (.tuple #[.agg #[.int .i64 lo,.int .i64 hi],.int .i64 ((n+1+m:Nat):Int)])∧Below w.heap.size w w'
     have c2':lo≤hi:=by omega
     clear e1 e2 ei h c1
     go_enter Tryz.func213,Tryz.ntmps213
     go_wp2_with fail
     refine(zq CE _ (zq HB)).mono ?_
     rintro e w1 ⟨rfl,b1⟩
     have HB1:=zk (Bs.later (zq HB) b1 (Nat.le_refl _))
     clear HB CE
     go_wp2_with fail
     refine(zq CB _ (zq HB1)).mono ?_
     rintro e w2 ⟨rfl,b2⟩
     clear CB
     have HB2:=zk (Bs.later (zq HB1) b2 (Nat.le_refl _))
     clear HB1
     go_wp2_with fail
     refine(zq CF _ (zq HB2)).mono ?_
     rintro e w3 ⟨rfl,b3⟩
     clear CF HB2
     have B3:=zY (zY b1 b2) b3
     have HG:=ze B3
     have q0:w3.cell? ⟨w.heap.size,0,none⟩=some (.int .i64 0):=by simp[World.cell?,HG]
     have q1:w3.cell? ⟨w.heap.size,1,none⟩=some (.int .i64 0):=by simp[World.cell?,HG]
     have f0:w3.frozen? ⟨w.heap.size,0,none⟩=false:=by simp[World.frozen?,HG]
     have f1:w3.frozen? ⟨w.heap.size,1,none⟩=false:=by simp[World.frozen?,HG]
     go_wp2_with fail
     (try simp only[Exit.inBlock,Exit.then])
     refine bodyPost_ret (v:= .tuple #[.agg #[.int .i64 lo,.int .i64 hi],.int .i64 (((n+1+m:Nat):Int))]) ?_ rfl ⟨rfl,?_⟩
     ·rw[results_cell_tmp rfl]
      go_simp
      try omega
     ·exact Below.setCell (Below.setCell ((Below.new1 _).trans (B3.mono (by simp))) (Nat.le_refl _) _) (Nat.le_refl _) _
  ·rw[decide_eq_false c1]at CB
   have ei:yz false l=some ((lo,lo),n):=by unfold yz;rw[e1];simp only;rw[if_neg c1]
   rw[ei]
   show Calls _ _ _ _ fun e w'=>e= .returned (.tuple #[.agg #[.int .i64 lo,.int .i64 lo],.int .i64 (n:Int)])∧Below w.heap.size w w'
   clear e1 ei h c1
   go_enter Tryz.func213,Tryz.ntmps213
   go_wp2_with fail
   refine(zq CE _ (zq HB)).mono ?_
   rintro e w1 ⟨rfl,b1⟩
   have HB1:=zk (Bs.later (zq HB) b1 (Nat.le_refl _))
   clear HB CE
   go_wp2_with fail
   refine(zq CB _ (zq HB1)).mono ?_
   rintro e w2 ⟨rfl,b2⟩
   clear CB
   clear HB1
   have B2:=zY b1 b2
   have HG:=ze B2
   have q0:w2.cell? ⟨w.heap.size,0,none⟩=some (.int .i64 0):=by simp[World.cell?,HG]
   have q1:w2.cell? ⟨w.heap.size,1,none⟩=some (.int .i64 0):=by simp[World.cell?,HG]
   have f0:w2.frozen? ⟨w.heap.size,0,none⟩=false:=by simp[World.frozen?,HG]
   have f1:w2.frozen? ⟨w.heap.size,1,none⟩=false:=by simp[World.frozen?,HG]
   go_wp2_with fail
   (try simp only[Exit.inBlock,Exit.then])
   refine bodyPost_ret (v:= .tuple #[.agg #[.int .i64 lo,.int .i64 lo],.int .i64 ((n:Int))]) ?_ rfl ⟨rfl,?_⟩
   ·rw[results_cell_tmp rfl]
    go_simp
    try omega
   ·exact Below.setCell (Below.setCell ((Below.new1 _).trans (B2.mono (by simp))) (Nat.le_refl _) _) (Nat.le_refl _) _
end Go.Proofs.YtcblkmlcbedomaaGreatDoor.T

/- Parts of the proof that stand ahead of it (T 1). -/
set_option linter.unusedVariables false
set_option linter.unusedSimpArgs false
set_option maxRecDepth 20000
set_option maxHeartbeats 16000000
namespace Go.Proofs.YtcblkmlcbedomaaGreatDoor
namespace G
def hasB (l:List (Int×Int)) (n:Int):Bool:=l.any fun r=>decide (r.1≤n)&&decide (n≤r.2)
def yZ (least:Int):List (Int×Int)→Bool
 | []=>true
 |r::t=>decide (least≤r.1)&&decide (r.1≤r.2)&&decide (r.2≤1114111)&&yZ (r.2+2) t
def zo (l:List (Int×Int)):Bool:=yZ 0 l
def Is (l:List (Int×Int)) (p:Int→Bool):Prop:=zo l=true∧∀n,hasB l n=p n
def dom (n:Int):Bool:=decide (0≤n)&&decide (n≤1114111)
theorem YV (n:Int):hasB [] n=false:=rfl
theorem yK (r:Int×Int) (t:List (Int×Int)) (n:Int):hasB (r::t) n=((decide (r.1≤n)&&decide (n≤r.2))||hasB t n):=by simp[hasB]
theorem qZ (a b:List (Int×Int)) (n:Int):hasB (a++b) n=(hasB a n||hasB b n):=by simp[hasB]
theorem jY (x y n:Int):hasB [(x,y)] n=(decide (x≤n)&&decide (n≤y)):=by simp[hasB]
theorem mayFrom_cons {least:Int} {r:Int×Int} {t:List (Int×Int)}:yZ least (r::t)=true↔least≤r.1∧r.1≤r.2∧r.2≤1114111∧yZ (r.2+2) t=true:=by
 simp[yZ,and_assoc]
theorem mayFrom_le {a b:Int} {t:List (Int×Int)} (h:yZ a t=true) (hb:b≤a):yZ b t=true:=by
 cases t with
 |nil=>rfl
 |cons r t=>rw[mayFrom_cons]at*;exact⟨by omega,h.2⟩
theorem Zo {least:Int} {t:List (Int×Int)} (h:yZ least t=true) {n:Int} (hn:hasB t n=true):least≤n∧n≤1114111:=by
 induction t generalizing least with
 |nil=>simp[hasB]at hn
 |cons r t ih=>
  rw[mayFrom_cons]at h
  rw[yK]at hn
  simp only[Bool.or_eq_true,Bool.and_eq_true,decide_eq_true_eq]at hn
  rcases hn with hn|hn
  ·omega
  ·have:=ih h.2.2.2 hn;omega
theorem Y9 {least:Int} {t:List (Int×Int)} (h:yZ least t=true) {n:Int} (hn:n<least):hasB t n=false:=by
 cases e:hasB t n with
 |false=>rfl
 |true=>have:=Zo h e;omega
theorem has_high {least:Int} {t:List (Int×Int)} (h:yZ least t=true) {n:Int} (hn:1114111<n):hasB t n=false:=by
 cases e:hasB t n with
 |false=>rfl
 |true=>have:=Zo h e;omega
theorem may_unique {a b:List (Int×Int)} {la lb:Int} (ha:yZ la a=true) (hb:yZ lb b=true) (h:∀n,hasB a n=hasB b n):a=b:=by
 induction a generalizing b la lb with
 |nil=>
  cases b with
  |nil=>rfl
  |cons y u=>
   rw[mayFrom_cons]at hb
   have:=h y.1
   rw[YV,yK]at this
   simp at this;omega
 |cons x t ih=>
  cases b with
  |nil=>
   rw[mayFrom_cons]at ha
   have:=h x.1
   rw[YV,yK]at this
   simp at this;omega
  |cons y u=>
   obtain⟨x1,x2⟩:=x
   obtain⟨y1,y2⟩:=y
   rw[mayFrom_cons]at ha hb
   simp only at ha hb
   obtain⟨hx0,hx1,hx2,ht⟩:=ha
   obtain⟨hy0,hy1,hy2,hu⟩:=hb
   have e1:∀n,hasB ((x1,x2)::t) n=true→x1≤n:=by
    intro n hn
    rw[yK]at hn
    simp only[Bool.or_eq_true,Bool.and_eq_true,decide_eq_true_eq]at hn
    rcases hn with hn|hn
    ·omega
    ·have:=Zo ht hn;omega
   have e2:∀n,hasB ((y1,y2)::u) n=true→y1≤n:=by
    intro n hn
    rw[yK]at hn
    simp only[Bool.or_eq_true,Bool.and_eq_true,decide_eq_true_eq]at hn
    rcases hn with hn|hn
    ·omega
    ·have:=Zo hu hn;omega
   have i1:hasB ((x1,x2)::t) x1=true:=by rw[yK];simp;left;omega
   have i2:hasB ((y1,y2)::u) y1=true:=by rw[yK];simp;left;omega
   have e3:x1=y1:=by
    have:=e1 y1 (by rw[h];exact i2)
    have:=e2 x1 (by rw[←h];exact i1)
    omega
   subst e3
   have e4:x2=y2:=by
    have k1:=h (x2+1)
    have k2:=h (y2+1)
    rw[yK,yK,Y9 ht (by omega)]at k1
    rw[yK,yK,Y9 hu (by omega)]at k2
    by_cases c1:x2<y2
    ·exfalso
     have:¬(x2+1≤x2):=by omega
     have:x1≤x2+1:=by omega
     have:x2+1≤y2:=by omega
     simp[*]at k1
    ·by_cases c2:y2<x2
     ·exfalso
      have:¬(y2+1≤y2):=by omega
      have:x1≤y2+1:=by omega
      have:y2+1≤x2:=by omega
      simp[*]at k2
     ·omega
   subst e4
   have e5:t=u:=by
    refine ih ht hu fun n=> ?_
    by_cases c:n<x2+2
    ·rw[Y9 ht c,Y9 hu c]
    ·have k:=h n
     rw[yK,yK]at k
     have:¬(n≤x2):=by omega
     simpa [this] using k
   rw[e5]
theorem Is.unique {a b:List (Int×Int)} {p q:Int→Bool} (ha:Is a p) (hb:Is b q) (h:∀n,p n=q n):a=b:=
 may_unique ha.1 hb.1 fun n=>by rw[ha.2,hb.2,h]
theorem Is.congr {a:List (Int×Int)} {p q:Int→Bool} (ha:Is a p) (h:∀n,p n=q n):Is a q:=⟨ha.1,fun n=>by rw[ha.2,h]⟩
theorem Is.self {a:List (Int×Int)} (h:zo a=true):Is a (hasB a):=⟨h,fun _=>rfl⟩
theorem mayFrom_length {least:Int} {l:List (Int×Int)} (h:yZ least l=true) (h0:least≤1114113):2*(l.length:Int)≤1114113-least+1:=by
 induction l generalizing least with
 |nil=>simp;omega
 |cons r t ih=>
  rw[mayFrom_cons]at h
  have:=ih h.2.2.2 (by omega)
  simp only[List.length_cons];push_cast;omega
theorem j6 {l:List (Int×Int)} (h:zo l=true):l.length≤557057:=by
 have:=mayFrom_length h (by omega);omega
theorem may_mem {least:Int} {l:List (Int×Int)} (h:yZ least l=true) {r:Int×Int} (hr:r∈l):least≤r.1∧r.1≤r.2∧r.2≤1114111:=by
 induction l generalizing least with
 |nil=>cases hr
 |cons x t ih=>
  rw[mayFrom_cons]at h
  rcases List.mem_cons.1 hr with rfl|hr
  ·exact⟨h.1,h.2.1,h.2.2.1⟩
  ·have:=ih h.2.2.2 hr;omega
def endOf (least:Int):List (Int×Int)→Int
 | []=>least
 |r::t=>endOf (r.2+2) t
theorem mayFrom_append {least:Int} {a b:List (Int×Int)}:yZ least (a++b)=true↔yZ least a=true∧yZ (endOf least a) b=true:=by
 induction a generalizing least with
 |nil=>simp[yZ,endOf]
 |cons r t ih=>simp only[List.cons_append,mayFrom_cons,endOf,ih];constructor<;>(intro h;simp_all)
theorem endOf_append (least:Int) (a:List (Int×Int)) (r:Int×Int):endOf least (a++[r])=r.2+2:=by
 induction a generalizing least with
 |nil=>rfl
 |cons x t ih=>simp[endOf,ih]
theorem mayFrom_one {least:Int} {r:Int×Int}:yZ least [r]=true↔least≤r.1∧r.1≤r.2∧r.2≤1114111:=by
 rw[mayFrom_cons];simp[yZ]
theorem may_snoc {a:List (Int×Int)} {r:Int×Int}:zo (a++[r])=true↔zo a=true∧endOf 0 a≤r.1∧r.1≤r.2∧r.2≤1114111:=by
 unfold zo;rw[mayFrom_append,mayFrom_one]
theorem join_new {a:List (Int×Int)} {x y lo hi:Int} (h:zo (a++[(x,y)])=true) (h1:y+1<lo) (h2:lo≤hi) (h3:hi≤1114111):zo ((a++[(x,y)])++[(lo,hi)])=true:=by
 rw[may_snoc];exact⟨h,by rw[endOf_append];simp only;omega,h2,h3⟩
theorem join_wide {a:List (Int×Int)} {x y lo hi z:Int} (h:zo (a++[(x,y)])=true) (h1:lo≤y+1) (h2:lo≤hi) (h3:hi≤1114111) (h4:x≤lo) (hz:z=max y hi):
  zo (a++[(x,z)])=true∧∀n,hasB (a++[(x,z)]) n=(hasB (a++[(x,y)]) n||(decide (lo≤n)&&decide (n≤hi))):=by
 rw[may_snoc]at h⊢
 simp only at h⊢
 refine⟨⟨h.1,h.2.1,by omega,by omega⟩,fun n=> ?_⟩
 rw[qZ,qZ,jY,jY]
 cases hasB a n
 ·simp only[Bool.false_or]
  rw[Bool.eq_iff_iff];simp only[Bool.and_eq_true,Bool.or_eq_true,decide_eq_true_eq];omega
 ·simp
/-! ### Sizes -/
def cnt (p:Int→Bool):Nat→Int
 |0=>0
 |k+1=>cnt p k+if p k then 1 else 0
def size (p:Int→Bool):Int:=cnt p 1114112
/-! ### Borders, and what is merged by them -/
def bs:List (Int×Int)→List Int
 | []=> []
 |r::t=>r.1::(r.2+1)::bs t
theorem YW (l:List (Int×Int)):(bs l).length=2*l.length:=by
 induction l with
 |nil=>rfl
 |cons r t ih=>simp[bs,ih];omega
def up (c:Int):List Int→Prop
 | []=>True
 |x::t=>c<x∧x≤1114112∧up x t
theorem up_le {a b:Int} {t:List Int} (h:up a t) (hb:b≤a):up b t:=by
 cases t with
 |nil=>trivial
 |cons x t=>exact⟨by have:=h.1;omega,h.2⟩
theorem up_mem {c:Int} {t:List Int} (h:up c t) {x:Int} (hx:x∈t):c<x∧x≤1114112:=by
 induction t generalizing c with
 |nil=>cases hx
 |cons y t ih=>
  obtain⟨h1,h2,h3⟩:=h
  rcases List.mem_cons.1 hx with rfl|hx
  ·exact⟨h1,h2⟩
  ·have:=ih h3 hx;omega
theorem bs_up {least:Int} {l:List (Int×Int)} (h:yZ least l=true):up (least-1) (bs l):=by
 induction l generalizing least with
 |nil=>trivial
 |cons r t ih=>
  rw[mayFrom_cons]at h
  refine⟨by omega,by omega,by omega,by omega,up_le (ih h.2.2.2) (by omega)⟩
theorem bs_same {least:Int} {l:List (Int×Int)} (h:yZ least l=true) {m n:Int} (hmn:m≤n) (hb:∀x∈bs l,¬(m<x∧x≤n)):hasB l n=hasB l m:=by
 induction l generalizing least with
 |nil=>rfl
 |cons r t ih=>
  rw[mayFrom_cons]at h
  have b1:=hb r.1 (by simp[bs])
  have b2:=hb (r.2+1) (by simp[bs])
  rw[yK,yK,ih h.2.2.2 (fun x hx=>hb x (by simp[bs,hx]))]
  congr 1
  rw[Bool.eq_iff_iff];simp only[Bool.and_eq_true,decide_eq_true_eq];omega
def ins (x:Int) (f:List Int→List Int):List Int→List Int
 | []=>x::f []
 |y::ys=>if x<y then x::f (y::ys)else if y<x then y::ins x f ys else x::f ys
def mrg:List Int→List Int→List Int
 | []=>fun ys=>ys
 |x::xs=>ins x (mrg xs)
theorem mrg_left (ys:List Int):mrg [] ys=ys:=rfl
theorem mrg_cons_nil (x:Int) (xs:List Int):mrg (x::xs) []=x::mrg xs []:=rfl
theorem mrg_cons (x y:Int) (xs ys:List Int):mrg (x::xs) (y::ys)=if x<y then x::mrg xs (y::ys)else if y<x then y::mrg (x::xs) ys else x::mrg xs ys:=rfl
theorem mrg_nil (xs:List Int):mrg xs []=xs:=by
 induction xs with
 |nil=>rfl
 |cons x xs ih=>rw[mrg_cons_nil,ih]
theorem mem_mrg {z:Int} (xs ys:List Int):z∈mrg xs ys↔z∈xs∨z∈ys:=by
 induction xs generalizing ys with
 |nil=>simp[mrg_left]
 |cons x xs ih=>
  induction ys with
  |nil=>rw[mrg_nil];simp
  |cons y ys ihy=>
   rw[mrg_cons]
   split
   ·rw[List.mem_cons,ih (y::ys)];simp[or_assoc]
   ·split
    ·rw[List.mem_cons,ihy];simp only[List.mem_cons];constructor<;>(rintro(h|h|h)<;>simp_all)
    ·have:x=y:=by omega
     subst this
     rw[List.mem_cons,ih ys];simp only[List.mem_cons];constructor
     ·rintro(h|h|h)<;>simp_all
     ·rintro((h|h)|(h|h))<;>simp_all
theorem up_mrg {c:Int} (xs ys:List Int) (h:up c xs) (k:up c ys):up c (mrg xs ys):=by
 induction xs generalizing ys c with
 |nil=>exact k
 |cons x xs ih=>
  induction ys generalizing c with
  |nil=>rw[mrg_nil];exact h
  |cons y ys ihy=>
   rw[mrg_cons]
   split
   ·exact⟨h.1,h.2.1,ih (y::ys) h.2.2 ⟨by omega,k.2⟩⟩
   ·split
    ·exact⟨k.1,k.2.1,ihy ⟨by omega,h.2⟩ k.2.2⟩
    ·have:x=y:=by omega
     subst this
     exact⟨h.1,h.2.1,ih ys h.2.2 k.2.2⟩
def run (p:Int→Bool):Option Int→List Int→List (Int×Int)
 |none,[]=> []
 |some lo,[]=> [(lo,lo)]
 |none,x::t=>if p x then run p (some x) t else run p none t
 |some lo,x::t=>if p x then run p (some lo) t else (lo,x-1)::run p none t
def turns (p:Int→Bool) (c:Int) (t:List Int):Prop:=∀m n,c≤m→m≤n→(∀x∈t,¬(m<x∧x≤n))→p n=p m
theorem turns_tail {p:Int→Bool} {c x:Int} {t:List Int} (h:turns p c (x::t)) (hx:c<x):turns p x t:=fun m n h1 h2 h3=>h m n (by omega) h2 fun y hy=>by
 rcases List.mem_cons.1 hy with rfl|hy
 ·omega
 ·exact h3 y hy
theorem run_none {p:Int→Bool} (hp:∀n,1114111<n→p n=false):∀(t:List Int) (c:Int),up c t→turns p c t→
  (p c=false→yZ (c+1) (run p none t)=true∧∀n,hasB (run p none t) n=(decide (c<n)&&p n))∧
  (∀lo,lo≤c→(∀m,lo≤m→m≤c→p m=true)→yZ lo (run p (some lo) t)=true∧∀n,hasB (run p (some lo) t) n=(decide (lo≤n)&&p n))
 | [],c,_,ht=>by
  refine⟨fun hc=>⟨rfl,fun n=> ?_⟩,fun lo hlo hm=> ?_⟩
  ·show false=_
   by_cases h:c<n
   ·rw[ht c n (Int.le_refl _) (by omega) (fun x hx=>by cases hx),hc];simp
   ·simp[h]
  ·exfalso
   have h1:=hm c hlo (Int.le_refl _)
   have h2:p (max c 1114112)=p c:=ht c _ (Int.le_refl _) (by omega) (fun x hx=>by cases hx)
   rw[h1,hp _ (by omega)]at h2
   cases h2
 |x::t,c,hu,ht=>by
  obtain⟨hcx,hx,hu⟩:=hu
  have ht2:=turns_tail ht hcx
  obtain⟨ih1,ih2⟩:=run_none hp t x hu ht2
  have flat:∀n,c≤n→n<x→p n=p c:=fun n h1 h2=>ht c n (Int.le_refl _) h1 fun y hy=>by
   rcases List.mem_cons.1 hy with rfl|hy
   ·omega
   ·have:=(up_mem hu hy).1;omega
  cases hpx:p x with
  |false=>
   obtain⟨a1,a2⟩:=ih1 hpx
   refine⟨fun hc=> ?_,fun lo hlo hm=> ?_⟩
   ·rw[run,hpx]
    refine⟨mayFrom_le a1 (by omega),fun n=> ?_⟩
    simp only[Bool.false_eq_true,if_false]
    rw[a2]
    by_cases h1:x<n
    ·simp[h1,show c<n by omega]
    ·by_cases h2:c<n
     ·by_cases h3:n=x
      ·subst h3;simp[hpx]
      ·rw[flat n (by omega) (by omega),hc];simp
     ·simp[h1,h2]
   ·rw[run,hpx]
    simp only[Bool.false_eq_true,if_false]
    refine⟨mayFrom_cons.2 ⟨Int.le_refl _,by simp only;omega,by simp only;omega,mayFrom_le a1 (by simp only;omega)⟩,fun n=> ?_⟩
    rw[yK,a2]
    simp only
    by_cases h1:x<n
    ·simp[h1,show¬(n≤x-1) by omega,show lo≤n by omega]
    ·by_cases h2:n=x
     ·subst h2;simp[hpx,show¬(n≤n-1) by omega]
     ·by_cases h3:lo≤n
      ·have:p n=true:=by
        by_cases h4:n≤c
        ·exact hm n h3 h4
        ·rw[flat n (by omega) (by omega)];exact hm c hlo (Int.le_refl _)
       simp[h1,h3,this,show n≤x-1 by omega]
      ·simp[h1,h3]
  |true=>
   refine⟨fun hc=> ?_,fun lo hlo hm=> ?_⟩
   ·obtain⟨a1,a2⟩:=ih2 x (Int.le_refl _) (fun m h1 h2=>by rw[show m=x by omega];exact hpx)
    rw[run,hpx]
    simp only[if_true]
    refine⟨mayFrom_le a1 (by omega),fun n=> ?_⟩
    rw[a2]
    by_cases h1:x≤n
    ·simp[h1,show c<n by omega]
    ·by_cases h2:c<n
     ·rw[flat n (by omega) (by omega),hc];simp[h1]
     ·simp[h1,h2]
   ·obtain⟨a1,a2⟩:=ih2 lo (by omega) (fun m h1 h2=>by
     by_cases h3:m≤c
     ·exact hm m h1 h3
     ·by_cases h4:m=x
      ·subst h4;exact hpx
      ·rw[flat m (by omega) (by omega)];exact hm c hlo (Int.le_refl _))
    rw[run,hpx]
    simp only[if_true]
    exact⟨a1,a2⟩
theorem merge_is {a b:List (Int×Int)} (ha:zo a=true) (hb:zo b=true) (f:Bool→Bool→Bool) (hf:f false false=false):
  Is (run (fun n=>f (hasB a n) (hasB b n)) none (mrg (bs a) (bs b))) (fun n=>f (hasB a n) (hasB b n)):=by
 have hp:∀n,1114111<n→f (hasB a n) (hasB b n)=false:=fun n hn=>by rw[has_high ha hn,has_high hb hn,hf]
 have h0:∀n,n<0→f (hasB a n) (hasB b n)=false:=fun n hn=>by rw[Y9 ha hn,Y9 hb hn,hf]
 have hu:=up_mrg _ _ (bs_up ha) (bs_up hb)
 have ht:turns (fun n=>f (hasB a n) (hasB b n)) (0-1) (mrg (bs a) (bs b)):=fun m n h1 h2 h3=>by
  show f _ _=f _ _
  rw[bs_same ha h2 (fun x hx=>h3 x ((mem_mrg _ _).2 (.inl hx))),bs_same hb h2 (fun x hx=>h3 x ((mem_mrg _ _).2 (.inr hx)))]
 obtain⟨r1,r2⟩:=(run_none hp _ _ hu ht).1 (h0 _ (by omega))
 refine⟨r1,fun n=> ?_⟩
 rw[r2]
 by_cases h:(0:Int)-1<n
 ·rw[decide_eq_true h];rfl
 ·rw[decide_eq_false h];exact(h0 n (by omega)).symm
end G
end Go.Proofs.YtcblkmlcbedomaaGreatDoor
namespace Go.Proofs.YtcblkmlcbedomaaGreatDoor.U
def zo (r:Int):Bool:=decide (0≤r∧r≤1114111∧(r<55296∨57343<r))
theorem qQ (r:Int):zo r=true↔(0≤r∧r≤1114111∧(r<55296∨57343<r)):=by simp[zo]
def vz (r:Int):List Int:=
 if r<128 then [r]else if r<2048 then [192+r/64,128+r%64]
 else if r<65536 then [224+r/4096,128+r/64%64,128+r%64]
 else [240+r/262144,128+r/4096%64,128+r/64%64,128+r%64]
def zW (c:Int):Nat:=if c<128 then 1 else if c<192 then 0 else if c<224 then 2 else if c<240 then 3 else if c<248 then 4 else 0
def xj (h z:Int):Int:=if h<0∨¬z/64=2 then-1 else h*64+z%64
def qV (least r:Int):Int:=if r<least∨zo r=false then-1 else r
def xY (n:Nat) (l:List Int):Int:=
 if n=1 then l.getD 0 0
 else if n=2 then qV 128 (xj (l.getD 0 0-192) (l.getD 1 0))
 else if n=3 then qV 2048 (xj (xj (l.getD 0 0-224) (l.getD 1 0)) (l.getD 2 0))
 else if n=4 then qV 65536 (xj (xj (xj (l.getD 0 0-240) (l.getD 1 0)) (l.getD 2 0)) (l.getD 3 0))
 else-1
def yw (l:List Int):Int×Nat:=
 if l=[]then (-1,0)
 else if l.length<zW (l.getD 0 0)then (-1,1)
 else if xY (zW (l.getD 0 0)) l<0 then (-1,1)
 else (xY (zW (l.getD 0 0)) l,zW (l.getD 0 0))
def zv (l:List Int):Prop:=∀z∈l,0≤z∧z≤255
theorem kJ {a:Int} {l:List Int} (h:zv (a::l)):zv l:=fun z hz=>h z (List.mem_cons_of_mem _ hz)
theorem Y7 {a:Int} {l:List Int} (h:zv (a::l)):0≤a∧a≤255:=h a List.mem_cons_self
theorem zZ {l:List Int} (h:zv l) (n:Nat):zv (l.drop n):=fun z hz=>h z (List.mem_of_mem_drop hz)
theorem yv {l:List Int} (h:zv l) (n:Nat):0≤l.getD n 0∧l.getD n 0≤255:=by
 by_cases hn:n<l.length
 ·have:=h l[n] (List.getElem_mem _);simpa [List.getD,hn] using this
 ·simp[List.getD,List.getElem?_eq_none (Nat.le_of_not_lt hn)]
theorem putL_len (r:Int):1≤(vz r).length∧(vz r).length≤4:=by
 unfold vz;split; · simp
 split; · simp
 split<;>simp
theorem next_put {r:Int} (h:zo r=true) (s:List Int):yw (vz r++s)=(r,(vz r).length):=by
 have h':=(qQ r).1 h
 by_cases h1:r<128
 ·have e:vz r=[r]:=by simp[vz,h1]
  rw[e];unfold yw
  have m:zW r=1:=by simp[zW,h1]
  simp[m,xY];omega
 by_cases h2:r<2048
 ·have e:vz r=[192+r/64,128+r%64]:=by simp[vz,h1,h2]
  rw[e];unfold yw
  have m:zW (192+r/64)=2:=by unfold zW;rw[if_neg (by omega),if_neg (by omega),if_pos (by omega)]
  have a:xj (192+r/64-192) (128+r%64)=r:=by unfold xj;rw[if_neg (by omega)];omega
  have f:qV 128 r=r:=by unfold qV;rw[if_neg (by simp[h];omega)]
  have rd:xY 2 ([192+r/64,128+r%64]++s)=r:=by
   show qV 128 (xj (192+r/64-192) (128+r%64))=r
   rw[a,f]
  simp only[List.cons_append,List.nil_append,List.getD_cons_zero,m]at rd⊢
  rw[rd,if_neg (by simp),if_neg (by simp),if_neg (by omega)];simp
 by_cases h3:r<65536
 ·have e:vz r=[224+r/4096,128+r/64%64,128+r%64]:=by simp[vz,h1,h2,h3]
  rw[e];unfold yw
  have m:zW (224+r/4096)=3:=by unfold zW;rw[if_neg (by omega),if_neg (by omega),if_neg (by omega),if_pos (by omega)]
  have a1:xj (224+r/4096-224) (128+r/64%64)=r/64:=by unfold xj;rw[if_neg (by omega)];omega
  have a2:xj (r/64) (128+r%64)=r:=by unfold xj;rw[if_neg (by omega)];omega
  have f:qV 2048 r=r:=by unfold qV;rw[if_neg (by simp[h];omega)]
  have rd:xY 3 ([224+r/4096,128+r/64%64,128+r%64]++s)=r:=by
   show qV 2048 (xj (xj (224+r/4096-224) (128+r/64%64)) (128+r%64))=r
   rw[a1,a2,f]
  simp only[List.cons_append,List.nil_append,List.getD_cons_zero,m]at rd⊢
  rw[rd,if_neg (by simp),if_neg (by simp),if_neg (by omega)];simp
 ·have e:vz r=[240+r/262144,128+r/4096%64,128+r/64%64,128+r%64]:=by simp[vz,h1,h2,h3]
  rw[e];unfold yw
  have m:zW (240+r/262144)=4:=by unfold zW;rw[if_neg (by omega),if_neg (by omega),if_neg (by omega),if_neg (by omega),if_pos (by omega)]
  have a1:xj (240+r/262144-240) (128+r/4096%64)=r/4096:=by unfold xj;rw[if_neg (by omega)];omega
  have a2:xj (r/4096) (128+r/64%64)=r/64:=by unfold xj;rw[if_neg (by omega)];omega
  have a3:xj (r/64) (128+r%64)=r:=by unfold xj;rw[if_neg (by omega)];omega
  have f:qV 65536 r=r:=by unfold qV;rw[if_neg (by simp[h];omega)]
  have rd:xY 4 ([240+r/262144,128+r/4096%64,128+r/64%64,128+r%64]++s)=r:=by
   show qV 65536 (xj (xj (xj (240+r/262144-240) (128+r/4096%64)) (128+r/64%64)) (128+r%64))=r
   rw[a1,a2,a3,f]
  simp only[List.cons_append,List.nil_append,List.getD_cons_zero,m]at rd⊢
  rw[rd,if_neg (by simp),if_neg (by simp),if_neg (by omega)];simp
theorem kZ {h z:Int} (a:0≤xj h z):0≤h∧z/64=2∧xj h z=h*64+z%64:=by
 unfold xj at a⊢;split at a
 ·omega
 ·rename_i c;rw[if_neg c];omega
theorem Xy {l r:Int} (a:0≤qV l r):l≤r∧zo r=true∧qV l r=r:=by
 unfold qV at a⊢;split at a
 ·omega
 ·rename_i c;rw[if_neg c]
  refine⟨by omega,?_,rfl⟩
  cases hm:zo r
  ·exact absurd (Or.inr hm) c
  ·rfl
theorem take1 {l:List Int} (h:1≤l.length):l.take 1=[l.getD 0 0]:=by
 match l,h with|_::_,_=>simp
theorem take2 {l:List Int} (h:2≤l.length):l.take 2=[l.getD 0 0,l.getD 1 0]:=by
 match l,h with|_::_::_,_=>simp
theorem take3 {l:List Int} (h:3≤l.length):l.take 3=[l.getD 0 0,l.getD 1 0,l.getD 2 0]:=by
 match l,h with|_::_::_::_,_=>simp
theorem take4 {l:List Int} (h:4≤l.length):l.take 4=[l.getD 0 0,l.getD 1 0,l.getD 2 0,l.getD 3 0]:=by
 match l,h with|_::_::_::_::_,_=>simp
theorem read_put {l:List Int} (hb:zv l) (hl:zW (l.getD 0 0)≤l.length) (hr:0≤xY (zW (l.getD 0 0)) l):
  zo (xY (zW (l.getD 0 0)) l)=true∧vz (xY (zW (l.getD 0 0)) l)=l.take (zW (l.getD 0 0))∧1≤zW (l.getD 0 0)∧zW (l.getD 0 0)≤4:=by
 have b0:=yv hb 0
 have b1:=yv hb 1
 have b2:=yv hb 2
 have b3:=yv hb 3
 by_cases c1:l.getD 0 0<128
 ·have m:zW (l.getD 0 0)=1:=by simp only[zW,if_pos c1]
  rw[m]at hl hr⊢
  rw[take1 hl]
  simp only[xY,if_pos]
  exact⟨by rw[qQ];omega,by simp only[vz,if_pos c1],by omega,by omega⟩
 by_cases c2:l.getD 0 0<192
 ·have m:zW (l.getD 0 0)=0:=by simp only[zW,if_neg c1,if_pos c2]
  rw[m]at hr
  simp[xY]at hr
 by_cases c3:l.getD 0 0<224
 ·have m:zW (l.getD 0 0)=2:=by simp only[zW,if_neg c1,if_neg c2,if_pos c3]
  rw[m]at hl hr⊢
  rw[take2 hl]
  have e:xY 2 l=qV 128 (xj (l.getD 0 0-192) (l.getD 1 0)):=by simp[xY]
  rw[e]at hr⊢
  obtain⟨f1,f2,f3⟩:=Xy hr
  rw[f3]
  obtain⟨a1,a2,a3⟩:=kZ (by omega:0≤xj (l.getD 0 0-192) (l.getD 1 0))
  refine⟨f2,?_,by omega,by omega⟩
  rw[a3]at f1⊢
  generalize l.getD 0 0=x0 at*
  generalize l.getD 1 0=x1 at*
  unfold vz
  rw[if_neg (by omega),if_pos (by omega)]
  congr 1
  ·omega
  ·congr 1;omega
 by_cases c4:l.getD 0 0<240
 ·have m:zW (l.getD 0 0)=3:=by simp only[zW,if_neg c1,if_neg c2,if_neg c3,if_pos c4]
  rw[m]at hl hr⊢
  rw[take3 hl]
  have e:xY 3 l=qV 2048 (xj (xj (l.getD 0 0-224) (l.getD 1 0)) (l.getD 2 0)):=by simp[xY]
  rw[e]at hr⊢
  obtain⟨f1,f2,f3⟩:=Xy hr
  rw[f3]
  obtain⟨a1,a2,a3⟩:=kZ (by omega:0≤xj (xj (l.getD 0 0-224) (l.getD 1 0)) (l.getD 2 0))
  obtain⟨a4,a5,a6⟩:=kZ a1
  refine⟨f2,?_,by omega,by omega⟩
  rw[a3,a6]at f1⊢
  generalize l.getD 0 0=x0 at*
  generalize l.getD 1 0=x1 at*
  generalize l.getD 2 0=x2 at*
  unfold vz
  rw[if_neg (by omega),if_neg (by omega),if_pos (by omega)]
  congr 1
  ·omega
  ·congr 1
   ·omega
   ·congr 1;omega
 by_cases c5:l.getD 0 0<248
 ·have m:zW (l.getD 0 0)=4:=by simp only[zW,if_neg c1,if_neg c2,if_neg c3,if_neg c4,if_pos c5]
  rw[m]at hl hr⊢
  rw[take4 hl]
  have e:xY 4 l=qV 65536 (xj (xj (xj (l.getD 0 0-240) (l.getD 1 0)) (l.getD 2 0)) (l.getD 3 0)):=by simp[xY]
  rw[e]at hr⊢
  obtain⟨f1,f2,f3⟩:=Xy hr
  rw[f3]
  obtain⟨a1,a2,a3⟩:=kZ (by omega:0≤xj (xj (xj (l.getD 0 0-240) (l.getD 1 0)) (l.getD 2 0)) (l.getD 3 0))
  obtain⟨a4,a5,a6⟩:=kZ a1
  obtain⟨a7,a8,a9⟩:=kZ a4
  refine⟨f2,?_,by omega,by omega⟩
  rw[a3,a6,a9]at f1⊢
  generalize l.getD 0 0=x0 at*
  generalize l.getD 1 0=x1 at*
  generalize l.getD 2 0=x2 at*
  generalize l.getD 3 0=x3 at*
  unfold vz
  rw[if_neg (by omega),if_neg (by omega),if_neg (by omega)]
  congr 1
  ·omega
  ·congr 1
   ·omega
   ·congr 1
    ·omega
    ·congr 1;omega
 ·have m:zW (l.getD 0 0)=0:=by simp only[zW,if_neg c1,if_neg c2,if_neg c3,if_neg c4,if_neg c5]
  rw[m]at hr
  simp[xY]at hr
theorem Yo {l:List Int} (hb:zv l):
  (l=[]∧yw l=(-1,0))∨(l≠[]∧yw l=(-1,1))∨
  ∃r,zo r=true∧yw l=(r,(vz r).length)∧l.take (vz r).length=vz r∧(vz r).length≤l.length:=by
 by_cases h0:l=[]
 ·exact .inl ⟨h0,by simp[yw,h0]⟩
 by_cases h1:l.length<zW (l.getD 0 0)
 ·exact .inr (.inl ⟨h0,by rw[yw,if_neg h0,if_pos h1]⟩)
 by_cases h2:xY (zW (l.getD 0 0)) l<0
 ·exact .inr (.inl ⟨h0,by rw[yw,if_neg h0,if_neg h1,if_pos h2]⟩)
 ·obtain⟨a,b,c,d⟩:=read_put hb (by omega) (by omega)
  have hlen:(vz (xY (zW (l.getD 0 0)) l)).length=zW (l.getD 0 0):=by rw[b,List.length_take];omega
  refine .inr (.inr ⟨_,a,by rw[yw,if_neg h0,if_neg h1,if_neg h2,hlen],?_,?_⟩)
  ·rw[hlen,b]
  ·rw[hlen];omega
theorem next_bound {l:List Int} (hb:zv l) (h:l≠[]):1≤(yw l).2∧(yw l).2≤4∧(yw l).2≤l.length∧-1≤(yw l).1∧(yw l).1≤1114111:=by
 have hl:1≤l.length:=by cases l<;>simp_all
 rcases Yo hb with ⟨e,_⟩|⟨_,e⟩|⟨r,a,e,_,d⟩
 ·exact absurd e h
 ·rw[e];refine⟨by simp,by simp,by simpa using hl,by simp,by simp⟩
 ·rw[e];have:=putL_len r;rw[qQ]at a;exact⟨this.1,this.2,d,by simp;omega,by simp;omega⟩
theorem next_ascii {l:List Int} (hb:zv l) (h:l≠[]) (hc:l.getD 0 0<128):yw l=(l.getD 0 0,1):=by
 have b0:=yv hb 0
 have hl:1≤l.length:=by cases l<;>simp_all
 have m:zW (l.getD 0 0)=1:=by simp only[zW,if_pos hc]
 have r:xY 1 l=l.getD 0 0:=by simp[xY]
 rw[yw,if_neg h,m,if_neg (by omega),r,if_neg (by omega)]
end Go.Proofs.YtcblkmlcbedomaaGreatDoor.U
namespace Go.Proofs.YtcblkmlcbedomaaGreatDoor.T
/-! ### Sets, as lists in order -/
def uniL (a b:List (Int×Int)):List (Int×Int):=G.run (fun n=>G.hasB a n||G.hasB b n) none (G.mrg (G.bs a) (G.bs b))
def lessL (a b:List (Int×Int)):List (Int×Int):=G.run (fun n=>G.hasB a n&& !G.hasB b n) none (G.mrg (G.bs a) (G.bs b))
def clipR (r:Int×Int):List (Int×Int):=if max r.1 0≤min r.2 1114111 then [(max r.1 0,min r.2 1114111)]else []
def Yy:List (Int×Int)→List (Int×Int)
 | []=> []
 |r::t=>uniL (clipR r) (Yy t)
def inN (l:List (Int×Int)) (n:Int):Bool:=G.dom n&&G.hasB l n
theorem uni_is {a b:List (Int×Int)} (ha:G.zo a=true) (hb:G.zo b=true):G.Is (uniL a b) (fun n=>G.hasB a n||G.hasB b n):=G.merge_is ha hb (fun x y=>x||y) rfl
theorem less_is {a b:List (Int×Int)} (ha:G.zo a=true) (hb:G.zo b=true):G.Is (lessL a b) (fun n=>G.hasB a n&& !G.hasB b n):=G.merge_is ha hb (fun x y=>x&& !y) rfl
theorem clip_is (r:Int×Int):G.Is (clipR r) (inN [r]):=by
 unfold clipR
 split
 ·next h=>
  constructor
  ·show G.yZ 0 _=true
   rw[G.mayFrom_one]
   simp only
   omega
  ·intro n
   rw[G.jY]
   unfold inN G.dom
   rw[show [r]=[(r.1,r.2)] from rfl,G.jY,Bool.eq_iff_iff]
   simp only[Bool.and_eq_true,decide_eq_true_eq]
   omega
 ·next h=>
  refine⟨rfl,fun n=> ?_⟩
  rw[G.YV]
  unfold inN G.dom
  rw[show [r]=[(r.1,r.2)] from rfl,G.jY]
  symm
  rw[Bool.eq_false_iff]
  simp only[ne_eq,Bool.and_eq_true,decide_eq_true_eq]
  omega
theorem jj (l:List (Int×Int)):G.Is (Yy l) (inN l):=by
 induction l with
 |nil=>exact⟨rfl,fun n=>by show G.hasB [] n=_;rw[G.YV];unfold inN;rw[G.YV,Bool.and_false]⟩
 |cons r t ih=>
  refine(uni_is (clip_is r).1 ih.1).congr fun n=> ?_
  rw[(clip_is r).2,ih.2]
  unfold inN
  rw[show r::t=[r]++t from rfl,G.qZ]
  cases G.dom n<;>simp
theorem in_may {l:List (Int×Int)} (h:G.zo l=true) (n:Int):inN l n=G.hasB l n:=by
 unfold inN G.dom
 cases e:G.hasB l n with
 |false=>simp
 |true=>have:=G.Zo h e;simp[this.1,this.2]
theorem norm_self {l:List (Int×Int)} (h:G.zo l=true):Yy l=l:=(jj l).unique (G.Is.self h) (in_may h)
def surr:List (Int×Int):=[(55296,57343)]
theorem surr_may:G.zo surr=true:=by decide
def allR:List (Int×Int):=[(0,1114111)]
theorem all_may:G.zo allR=true:=by decide
def kK (no:Bool) (l:List (Int×Int)):List (Int×Int):=lessL (if no then lessL allR (Yy l)else Yy l) surr
theorem class_is (no:Bool) (l:List (Int×Int)):G.Is (kK no l) (fun n=>U.zo n&&(if no then !G.hasB l n else G.hasB l n)):=by
 have h1:G.zo (if no then lessL allR (Yy l)else Yy l)=true:=by
  cases no
  ·exact(jj l).1
  ·exact(less_is all_may (jj l).1).1
 refine(less_is h1 surr_may).congr fun n=> ?_
 have e2:G.hasB surr n=(decide (55296≤n)&&decide (n≤57343)):=G.jY _ _ _
 rw[e2]
 have em:U.zo n=(G.dom n&& !(decide (55296≤n)&&decide (n≤57343))):=by
  unfold U.zo G.dom
  rw[Bool.eq_iff_iff]
  simp only[Bool.and_eq_true,decide_eq_true_eq,Bool.not_eq_true',Bool.and_eq_false_iff,decide_eq_false_iff_not]
  omega
 rw[em]
 cases no
 ·simp only[Bool.false_eq_true,if_false]
  rw[(jj l).2]
  unfold inN
  cases G.dom n<;>cases (decide (55296≤n)&&decide (n≤57343))<;>cases G.hasB l n<;>rfl
 ·simp only[if_true]
  rw[(less_is all_may (jj l).1).2]
  simp only
  rw[(jj l).2]
  have e3:G.hasB allR n=G.dom n:=G.jY _ _ _
  rw[e3]
  unfold inN
  cases G.dom n<;>cases (decide (55296≤n)&&decide (n≤57343))<;>cases G.hasB l n<;>rfl
/-! ### What stands one behind the other, up to what ends it -/
def vY {α:Type} (one:List Int→Option (α×Nat)) (stop:Int):Nat→List Int→Option (List α×Nat)
 |0,_=>none
 |f+1,r=>if r=[]then none else if r.getD 0 0=stop then some ([],1)else
   match one r with
   |none=>none
   |some (x,n)=>match vY one stop f (r.drop n)with
    |none=>none
    |some (xs,m)=>some (x::xs,n+m)
def yu {α:Type} (one:List Int→Option (α×Nat)) (stop:Int) (r:List Int):Option (List α×Nat):=vY one stop r.length r
def Good {α:Type} (one:List Int→Option (α×Nat)):Prop:=∀r x n,U.zv r→one r=some (x,n)→1≤n∧n≤r.length
theorem gather_fuel {α:Type} {one:List Int→Option (α×Nat)} {stop:Int} (hg:Good one):∀(f g:Nat) (r:List Int),U.zv r→r.length≤f→r.length≤g→vY one stop f r=vY one stop g r:=by
 intro f
 induction f with
 |zero=>
  intro g r hb h1 _
  have:r=[]:=List.eq_nil_of_length_eq_zero (by omega)
  subst this
  cases g<;>simp[vY]
 |succ f ih=>
  intro g r hb h1 h2
  cases g with
  |zero=>
   have:r=[]:=List.eq_nil_of_length_eq_zero (by omega)
   subst this
   simp[vY]
  |succ g=>
   simp only[vY]
   split
   ·rfl
   ·split
    ·rfl
    ·cases e:one r with
     |none=>rfl
     |some p=>
      obtain⟨x,n⟩:=p
      have:=hg r x n hb e
      simp only
      rw[ih g (r.drop n) (U.zZ hb n) (by rw[List.length_drop];omega) (by rw[List.length_drop];omega)]
theorem jQ {α:Type} {one:List Int→Option (α×Nat)} {stop:Int}:yu one stop []=none:=rfl
theorem vi {α:Type} {one:List Int→Option (α×Nat)} {stop:Int} {r:List Int} (h:r≠[]) (hs:r.getD 0 0=stop):yu one stop r=some ([],1):=by
 unfold yu
 obtain⟨k,hk⟩:∃k,r.length=k+1:=⟨r.length-1,by cases r<;>simp_all⟩
 rw[hk]
 simp only[vY,if_neg h,if_pos hs]
theorem Xz {α:Type} {one:List Int→Option (α×Nat)} {stop:Int} {r:List Int} (h:r≠[]) (hs:r.getD 0 0≠stop) (ho:one r=none):yu one stop r=none:=by
 unfold yu
 obtain⟨k,hk⟩:∃k,r.length=k+1:=⟨r.length-1,by cases r<;>simp_all⟩
 rw[hk]
 simp only[vY,if_neg h,if_neg hs,ho]
theorem vo {α:Type} {one:List Int→Option (α×Nat)} {stop:Int} (hg:Good one) {r:List Int} (hb:U.zv r) (h:r≠[]) (hs:r.getD 0 0≠stop) {x:α} {n:Nat} (ho:one r=some (x,n)):
  yu one stop r=match yu one stop (r.drop n)with|none=>none|some (xs,m)=>some (x::xs,n+m):=by
 have hn:=hg r x n hb ho
 unfold yu
 obtain⟨k,hk⟩:∃k,r.length=k+1:=⟨r.length-1,by cases r<;>simp_all⟩
 rw[hk]
 simp only[vY,if_neg h,if_neg hs,ho]
 rw[gather_fuel hg k (r.drop n).length (r.drop n) (U.zZ hb n) (by rw[List.length_drop];omega) (Nat.le_refl _)]
theorem gather_len {α:Type} {one:List Int→Option (α×Nat)} {stop:Int} (hg:Good one):∀(f:Nat) (r:List Int) (xs:List α) (m:Nat),U.zv r→r.length≤f→yu one stop r=some (xs,m)→1≤m∧m≤r.length∧xs.length+1≤m:=by
 intro f
 induction f with
 |zero=>
  intro r xs m _ h e
  have:r=[]:=List.eq_nil_of_length_eq_zero (by omega)
  subst this
  rw[jQ]at e;cases e
 |succ f ih=>
  intro r xs m hb h e
  by_cases h0:r=[]
  ·subst h0;rw[jQ]at e;cases e
  ·have hl:1≤r.length:=by cases r<;>simp_all
   by_cases hs:r.getD 0 0=stop
   ·rw[vi h0 hs]at e
    cases e
    exact⟨by omega,hl,by simp⟩
   ·cases ho:one r with
    |none=>rw[Xz h0 hs ho]at e;cases e
    |some p=>
     obtain⟨x,n⟩:=p
     have hn:=hg r x n hb ho
     rw[vo hg hb h0 hs ho]at e
     cases e2:yu one stop (r.drop n)with
     |none=>rw[e2]at e;cases e
     |some q=>
      obtain⟨ys,k⟩:=q
      rw[e2]at e
      simp only[Option.some.injEq,Prod.mk.injEq]at e
      have:=ih (r.drop n) ys k (U.zZ hb n) (by rw[List.length_drop];omega) e2
      rw[List.length_drop]at this
      obtain⟨rfl,rfl⟩:=e
      rw[List.length_cons]
      omega
/-! ### Letters, digits -/
def xi (z:Int):Bool:=decide (97≤z)&&decide (z≤122)
def isDig (z:Int):Bool:=decide (48≤z)&&decide (z≤57)
def isW (z:Int):Bool:=xi z||isDig z||decide (z=95)
def vQ:List Int→Nat
 | []=>0
 |z::t=>if isW z then vQ t+1 else 0
def yY (r:List Int):Nat:=if xi (r.getD 0 0)then vQ (r.drop 1)+1 else 0
def xw (z:Int):Int:=if isDig z then z-48 else if 97≤z∧z≤102 then z-87 else-1
def ZZ (r:List Int):Int:=if xw (r.getD 0 0)<0∨xw (r.getD 1 0)<0 then-1 else 16*xw (r.getD 0 0)+xw (r.getD 1 0)
def yi:Nat→Int→List Int→Int×Nat
 |0,v,_=>(v,0)
 |_+1,v,[]=>(v,0)
 |m+1,v,z::t=>if 0≤xw z then ((yi m (16*v+xw z) t).1,(yi m (16*v+xw z) t).2+1)else (v,0)
/-! ### SIGNs, HEXes, items, pieces -/
def jk (r:List Int):Option (Int×Nat):=
 if r=[]then none
 else if r.getD 0 0≠92 then
  if (U.yw r).1<32∨(U.yw r).1=91∨(U.yw r).1=93∨(U.yw r).1=94∨(U.yw r).1=45 then none else some (U.yw r)
 else if r.getD 1 0≠117 then none
 else if (yi 6 0 (r.drop 2)).2=0∨U.zo (yi 6 0 (r.drop 2)).1=false∨r.getD (2+(yi 6 0 (r.drop 2)).2) 0≠59 then none
 else some ((yi 6 0 (r.drop 2)).1,(yi 6 0 (r.drop 2)).2+3)
def ja (by':Bool) (r:List Int):Option (Int×Nat):=if by' then (if ZZ r<0 then none else some (ZZ r,2))else jk r
def yz (by':Bool) (r:List Int):Option ((Int×Int)×Nat):=
 match ja by' r with
 |none=>none
 |some (lo,n)=>
  if (r.drop n).getD 0 0=45 then
   match ja by' (r.drop (n+1))with
   |none=>none
   |some (to,m)=>if to<lo then none else some ((lo,to),n+1+m)
  else some ((lo,lo),n)
def jw (r:List Int):Option (Int×Nat):=
 if r.getD 0 0=92 then (if r.getD 1 0=120∧0≤ZZ (r.drop 2)then some (ZZ (r.drop 2),4)else none)
 else if r.getD 0 0<32∨126<r.getD 0 0 then none else some (r.getD 0 0,1)
/-! ### Tokens -/
abbrev Tk:=Int×List Int×List (Int×Int)
def marks:List (List Int):=[[108,111,110,103],[114,101,115],[111,102,102],[98,108,111,99,107],[97,108,105,103,110],[115,121,110,99]]
def signs:List Int:=[61,124,59,40,41,42,43,63,47,37]
def Zi (r:List Int):Nat:=if r.getD 1 0=94 then 1 else 0
def xJ (r:List Int):Option (Tk×Nat):=
 if xi (r.getD 0 0)then (if 12<yY r then none else some ((0,r.take (yY r),[]),yY r))
 else if r.getD 0 0=64 then (if (r.drop 1).take (yY (r.drop 1))∈marks then some ((5,(r.drop 1).take (yY (r.drop 1)),[]),yY (r.drop 1)+1)else none)
 else if r.getD 0 0∈signs then some ((4,[r.getD 0 0],[]),1)
 else if r.getD 0 0=34 then
  match yu jw 34 (r.drop 1)with
  |none=>none
  |some (x,n)=>if x=[]then none else some ((1,x,[]),n+1)
 else if r.getD 0 0=60 then
  match yu (yz true) 62 (r.drop 1)with
  |none=>none
  |some (l,n)=>some ((3,[],Yy l),n+1)
 else if r.getD 0 0=91 then
  match yu (yz false) 93 (r.drop (1+Zi r))with
  |none=>none
  |some (l,n)=>some ((2,[],kK (decide (Zi r=1)) l),n+1+Zi r)
 else none
def Zw (z:Int):Bool:=decide (z=32)||decide (z=9)||decide (z=10)||decide (z=13)
def allF:Nat→Nat→Nat→List Int→Sum (Nat×Int) (List (Tk×Nat))
 |0,_,_,_=> .inr []
 |f+1,a,c,r=>if r=[]then .inr []else if Zw (r.getD 0 0)then allF f (a+1) c (r.drop 1)else
   match xJ r with
   |none=> .inl (a,2)
   |some (t,n)=>if c=0 then .inl (a,7)else
    match allF f (a+n) (c-1) (r.drop n)with
    | .inl e=> .inl e
    | .inr l=> .inr ((t,a)::l)
def kV (s:List Int):Sum (Nat×Int) (List (Tk×Nat)):=if 3000<s.length then .inl (0,7)else allF s.length 0 600 s
/-! ### How a token is told -/
def Y8 (d:Int):Int:=if d<10 then 48+d else 87+d
def sixF:Nat→Int→List Int
 |0,n=> [Y8 n]
 |f+1,n=>if n<16 then [Y8 n]else sixF f (n/16)++[Y8 (n%16)]
def sixL (n:Int):List Int:=sixF 5 n
def hex2 (n:Int):List Int:=[Y8 (n/16),Y8 (n%16)]
def plainB (n:Int):Bool:=decide (32≤n)&&decide (n≤126)&& !decide (n=91∨n=93∨n=94∨n=45∨n=92)
def xe (by':Bool) (n:Int):List Int:=if by' then hex2 n else if plainB n then [n]else 92::117::(sixL n++[59])
def xZ (by':Bool) (r:Int×Int):List Int:=if r.1<r.2 then xe by' r.1++45::xe by' r.2 else xe by' r.1
def rawB (c:Int):Bool:= !decide (c<32∨126<c∨c=34∨c=92)
def vJ (c:Int):List Int:=if rawB c then [c]else 92::120::hex2 c
def jz (t:Tk):List Int:=
 if t.1=5 then 64::t.2.1
 else if t.1=1 then 34::(t.2.1.flatMap vJ++[34])
 else if t.1=2 then 91::(t.2.2.flatMap (xZ false)++[93])
 else if t.1=3 then 60::(t.2.2.flatMap (xZ true)++[62])
 else t.2.1
def partsB (t:Tk):Bool:=decide (0≤t.1)&&decide (t.1≤5)&&G.zo t.2.2&&t.2.2.all fun r=>(decide (t.1≠2)||(U.zo r.1&&U.zo r.2))&&(decide (t.1≠3)||decide (r.2≤255))
def mayL (t:Tk):Bool:=partsB t&&match kV (jz t)with
 | .inr [(u,_)]=>decide (u=t)
 |_=>false
/-! ### Digits -/
theorem Z7 {d:Int} (h0:0≤d) (h1:d<16):xw (Y8 d)=d:=by
 unfold Y8 xw isDig
 by_cases h:d<10
 ·rw[if_pos h,if_pos (by simp;omega)];omega
 ·rw[if_neg h,if_neg (by simp;omega),if_pos (by omega)];omega
theorem ke (z:Int): -1≤xw z∧xw z≤15:=by
 unfold xw isDig
 split
 ·next h=>simp at h;omega
 ·split<;>omega
theorem vj {d:Int} (h0:0≤d) (h1:d<16):(48≤Y8 d∧Y8 d≤57)∨(97≤Y8 d∧Y8 d≤102):=by unfold Y8;split<;>omega
theorem hex_hex2 {n:Int} (h0:0≤n) (h1:n≤255) (s:List Int):ZZ (hex2 n++s)=n:=by
 have e0:(hex2 n++s).getD 0 0=Y8 (n/16):=rfl
 have e1:(hex2 n++s).getD 1 0=Y8 (n%16):=rfl
 unfold ZZ
 rw[e0,e1,Z7 (by omega) (by omega),Z7 (by omega) (by omega),if_neg (by omega)]
 omega
theorem hex_range (r:List Int): -1≤ZZ r∧ZZ r≤255:=by
 have h1:=ke (r.getD 0 0)
 have h2:=ke (r.getD 1 0)
 unfold ZZ
 split<;>omega
theorem val_zero:xw 0= -1:=by decide
theorem hex_len {r:List Int} (h:0≤ZZ r):2≤r.length:=by
 unfold ZZ at h
 match r with
 | []=>simp[List.getD,val_zero]at h
 | [a]=>simp[List.getD,val_zero]at h
 |a::b::t=>simp
def foldD (v:Int) (l:List Int):Int:=l.foldl (fun v z=>16*v+xw z) v
theorem dig_list:∀(ds:List Int) (m:Nat) (v:Int) (s:List Int),(∀z∈ds,0≤xw z)→ds.length≤m→(ds.length=m∨xw (s.getD 0 0)<0)→yi m v (ds++s)=(foldD v ds,ds.length):=by
 intro ds
 induction ds with
 |nil=>
  intro m v s _ _ h
  cases m with
  |zero=>rfl
  |succ m=>
   cases s with
   |nil=>rfl
   |cons z t=>
    simp at h
    simp only[List.nil_append,yi]
    rw[if_neg (by omega)];rfl
 |cons z ds ih=>
  intro m v s hz hl h
  cases m with
  |zero=>simp at hl
  |succ m=>
   simp only[List.length_cons]at hl h
   simp only[List.cons_append,yi]
   rw[if_pos (hz z List.mem_cons_self),ih m _ s (fun y hy=>hz y (List.mem_cons_of_mem _ hy)) (by omega) (by omega)]
   rfl
theorem dig_range:∀(m:Nat) (v:Int) (s:List Int),(yi m v s).2≤m∧(yi m v s).2≤s.length:=by
 intro m
 induction m with
 |zero=>intro v s;simp[yi]
 |succ m ih=>
  intro v s
  cases s with
  |nil=>simp[yi]
  |cons z t=>
   simp only[yi]
   split
   ·have:=ih (16*v+xw z) t
    simp only[List.length_cons]
    omega
   ·simp
theorem six_ok:∀(f:Nat) (n:Int),0≤n→n<16^(f+1)→(∀z∈sixF f n,0≤xw z)∧foldD 0 (sixF f n)=n∧1≤(sixF f n).length∧(sixF f n).length≤f+1:=by
 intro f
 induction f with
 |zero=>
  intro n h0 h1
  have h1':n<16:=by simpa using h1
  refine⟨fun z hz=> ?_,?_,by simp[sixF],by simp[sixF]⟩
  ·simp only[sixF,List.mem_cons,List.not_mem_nil,or_false]at hz
   subst hz
   rw[Z7 h0 h1'];exact h0
  ·simp only[sixF,foldD,List.foldl]
   rw[Z7 h0 h1'];omega
 |succ f ih=>
  intro n h0 h1
  by_cases h:n<16
  ·have e:sixF (f+1) n=[Y8 n]:=by simp only[sixF];rw[if_pos h]
   rw[e]
   refine⟨fun z hz=> ?_,?_,by simp,by simp⟩
   ·simp only[List.mem_cons,List.not_mem_nil,or_false]at hz
    subst hz
    rw[Z7 h0 h];exact h0
   ·simp only[foldD,List.foldl]
    rw[Z7 h0 h];omega
  ·have e:sixF (f+1) n=sixF f (n/16)++[Y8 (n%16)]:=by simp only[sixF];rw[if_neg h]
   have h2:n/16<16^(f+1):=by
    have:(16:Int)^(f+1+1)=16^(f+1)*16:=Int.pow_succ _ _
    rw[this]at h1
    generalize (16:Int)^(f+1)=P at*
    omega
   obtain⟨i1,i2,i3,i4⟩:=ih (n/16) (by omega) h2
   rw[e]
   refine⟨fun z hz=> ?_,?_,by rw[List.length_append];simp,by rw[List.length_append];simp;omega⟩
   ·rcases List.mem_append.1 hz with hz|hz
    ·exact i1 z hz
    ·simp only[List.mem_cons,List.not_mem_nil,or_false]at hz
     subst hz
     rw[Z7 (by omega) (by omega)];omega
   ·unfold foldD at i2⊢
    rw[List.foldl_append,i2]
    simp only[List.foldl]
    rw[Z7 (by omega) (by omega)];omega
theorem sixL_ok {n:Int} (h0:0≤n) (h1:n≤1114111):(∀z∈sixL n,0≤xw z)∧foldD 0 (sixL n)=n∧1≤(sixL n).length∧(sixL n).length≤6:=
 six_ok 5 n h0 (by(have:(16:Int)^(5+1)=16777216:=by decide);omega)
/-! ### SIGNs, HEXes, items, pieces: what is told is read -/
theorem plain_iff {n:Int}:plainB n=true↔32≤n∧n≤126∧n≠91∧n≠93∧n≠94∧n≠45∧n≠92:=by
 unfold plainB
 simp only[Bool.and_eq_true,decide_eq_true_eq,Bool.not_eq_true',decide_eq_false_iff_not]
 omega
theorem val_semi:xw 59= -1:=by decide
theorem sign_show {n:Int} (h:U.zo n=true) {s:List Int} (hs:U.zv s):jk (xe false n++s)=some (n,(xe false n).length):=by
 have hm:=(U.qQ n).1 h
 unfold xe
 simp only[Bool.false_eq_true,if_false]
 by_cases hp:plainB n=true
 ·rw[if_pos hp]
  have hp':=plain_iff.1 hp
  have e:U.vz n=[n]:=by unfold U.vz;rw[if_pos (by omega)]
  have hn:=U.next_put h s
  rw[e]at hn
  unfold jk
  rw[if_neg (by simp),if_pos (by simp[List.getD];omega),hn]
  simp only
  rw[if_neg (by omega)]
 ·rw[if_neg hp]
  obtain⟨d1,d2,d3,d4⟩:=sixL_ok hm.1 hm.2.1
  have hd:yi 6 0 (sixL n++(59::s))=(n,(sixL n).length):=by
   rw[dig_list (sixL n) 6 0 (59::s) d1 d4 (.inr (by show xw 59<0;rw[val_semi];omega)),d2]
  have e1:(92::117::(sixL n++[59]))++s=92::117::(sixL n++(59::s)):=by simp
  rw[e1]
  unfold jk
  have e2:(92::117::(sixL n++(59::s))).drop 2=sixL n++(59::s):=rfl
  have e3:(92::117::(sixL n++(59::s))).getD (2+(sixL n).length) 0=59:=by
   simp[List.getD,show 2+(sixL n).length=(sixL n).length+1+1 by omega]
  rw[if_neg (by simp),if_neg (by simp[List.getD]),if_neg (by simp[List.getD]),e2,hd]
  simp only
  rw[e3,if_neg (by rintro(c|c|c);omega;rw[h]at c;cases c;exact c rfl)]
  simp
theorem one_show {b:Bool} {n:Int} (h:if b then 0≤n∧n≤255 else U.zo n=true) {s:List Int} (hs:U.zv s):ja b (xe b n++s)=some (n,(xe b n).length):=by
 cases b with
 |false=>exact sign_show (by simpa using h) hs
 |true=>
  simp only[if_true]at h
  unfold ja xe
  simp only[if_true]
  rw[hex_hex2 h.1 h.2,if_neg (by omega)]
  rfl
theorem show_head {b:Bool} {n:Int} (h:if b then 0≤n∧n≤255 else U.zo n=true):xe b n≠[]∧(xe b n).getD 0 0≠45∧(xe b n).getD 0 0≠93∧(xe b n).getD 0 0≠62∨b=false∧xe b n≠[]∧(xe b n).getD 0 0≠45∧(xe b n).getD 0 0≠93:=by
 cases b with
 |true=>
  simp only[if_true]at h
  left
  unfold xe
  simp only[if_true]
  have:=vj (d:=n/16) (by omega) (by omega)
  refine⟨by simp[hex2],?_,?_,?_⟩<;>(show Y8 (n/16)≠_;omega)
 |false=>
  right
  refine⟨rfl,?_⟩
  unfold xe
  simp only[Bool.false_eq_true,if_false]
  by_cases hp:plainB n=true
  ·have:=plain_iff.1 hp
   rw[if_pos hp]
   refine⟨by simp,?_,?_⟩<;>(show n≠_;omega)
  ·rw[if_neg hp]
   exact⟨by simp,by simp[List.getD],by simp[List.getD]⟩
theorem Ye {b:Bool} {n:Int} (h:if b then 0≤n∧n≤255 else U.zo n=true):U.zv (xe b n):=by
 have hx:∀d:Int,0≤d→d<16→0≤Y8 d∧Y8 d≤255:=fun d h0 h1=>by have:=vj h0 h1;omega
 have hv:∀z:Int,0≤xw z→0≤z∧z≤255:=fun z hz=>by
  unfold xw isDig at hz
  split at hz
  ·next c=>simp at c;omega
  ·split at hz<;>omega
 cases b with
 |true=>
  simp only[if_true]at h
  intro z hz
  unfold xe hex2 at hz
  simp only[if_true,List.mem_cons,List.not_mem_nil,or_false]at hz
  rcases hz with rfl|rfl
  ·exact hx _ (by omega) (by omega)
  ·exact hx _ (by omega) (by omega)
 |false=>
  have hm:=(U.qQ n).1 (by simpa using h)
  intro z hz
  unfold xe at hz
  simp only[Bool.false_eq_true,if_false]at hz
  split at hz
  ·next hp=>
   have:=plain_iff.1 hp
   simp at hz;omega
  ·simp only[List.mem_cons,List.mem_append,List.not_mem_nil,or_false]at hz
   rcases hz with rfl|rfl|hz|rfl
   ·omega
   ·omega
   ·exact hv z ((sixL_ok hm.1 hm.2.1).1 z hz)
   ·omega
theorem vv {a b:List Int} (ha:U.zv a) (hb:U.zv b):U.zv (a++b):=fun z hz=>by
 rcases List.mem_append.1 hz with h|h
 ·exact ha z h
 ·exact hb z h
theorem ye {z:Int} {b:List Int} (h0:0≤z) (h1:z≤255) (hb:U.zv b):U.zv (z::b):=fun y hy=>by
 rcases List.mem_cons.1 hy with rfl|h
 ·exact⟨h0,h1⟩
 ·exact hb y h
def okO (b:Bool) (n:Int):Prop:=if b then 0≤n∧n≤255 else U.zo n=true
def okI (b:Bool) (r:Int×Int):Prop:=r.1≤r.2∧okO b r.1∧okO b r.2
theorem item_show {b:Bool} {r:Int×Int} (h:okI b r) {s:List Int} (hs:U.zv s) (h45:s.getD 0 0≠45):yz b (xZ b r++s)=some (r,(xZ b r).length):=by
 obtain⟨lo,hi⟩:=r
 obtain⟨h1,h2,h3⟩:=h
 simp only at h1 h2 h3
 unfold xZ
 simp only
 by_cases hlt:lo<hi
 ·rw[if_pos hlt]
  have e:xe b lo++45::xe b hi++s=xe b lo++(45::(xe b hi++s)):=by simp
  rw[e]
  unfold yz
  rw[one_show h2 (ye (by omega) (by omega) (vv (Ye h3) hs))]
  simp only
  rw[List.drop_left,if_pos (by simp[List.getD]),←List.drop_drop,List.drop_left]
  simp only[List.drop_succ_cons,List.drop_zero]
  rw[one_show h3 hs]
  simp only
  rw[if_neg (by omega)]
  simp
  omega
 ·obtain rfl:lo=hi:=by omega
  rw[if_neg hlt]
  unfold yz
  rw[one_show h2 hs]
  simp only
  rw[List.drop_left,if_neg h45]
theorem raw_iff {c:Int}:rawB c=true↔32≤c∧c≤126∧c≠34∧c≠92:=by
 unfold rawB
 simp only[Bool.not_eq_true',decide_eq_false_iff_not]
 omega
theorem piece_show {c:Int} (h0:0≤c) (h1:c≤255) (s:List Int):jw (vJ c++s)=some (c,(vJ c).length):=by
 unfold vJ
 by_cases hr:rawB c=true
 ·have:=raw_iff.1 hr
  rw[if_pos hr]
  unfold jw
  have e:([c]++s).getD 0 0=c:=rfl
  rw[e,if_neg (by omega),if_neg (by omega)]
  rfl
 ·rw[if_neg hr]
  unfold jw
  have e0:((92::120::hex2 c)++s).getD 0 0=92:=rfl
  have e1:((92::120::hex2 c)++s).getD 1 0=120:=rfl
  have e2:((92::120::hex2 c)++s).drop 2=hex2 c++s:=rfl
  rw[e0,e1,e2,hex_hex2 h0 h1,if_pos rfl,if_pos ⟨rfl,h0⟩]
  rfl
theorem piece_head {c:Int}:vJ c≠[]∧(vJ c).getD 0 0≠34:=by
 unfold vJ
 by_cases hr:rawB c=true
 ·have:=raw_iff.1 hr
  rw[if_pos hr]
  exact⟨by simp,by show c≠34;omega⟩
 ·rw[if_neg hr]
  exact⟨by simp,by simp[List.getD]⟩
/-! ### What each takes -/
theorem sign_good:Good jk:=by
 intro r x n hb h
 unfold jk at h
 split at h
 ·cases h
 ·next h0=>
  split at h
  ·split at h
   ·cases h
   ·simp only[Option.some.injEq]at h
    have nb:=U.next_bound hb h0
    rw[h]at nb
    omega
  ·split at h
   ·cases h
   ·split at h
    ·cases h
    ·next c=>
     simp only[Option.some.injEq,Prod.mk.injEq]at h
     have dr:=dig_range 6 0 (r.drop 2)
     have hlen:2+(yi 6 0 (r.drop 2)).2<r.length:=by
      by_cases hh:2+(yi 6 0 (r.drop 2)).2<r.length
      ·exact hh
      ·exfalso
       apply c
       right;right
       simp[List.getD,List.getElem?_eq_none (Nat.le_of_not_lt hh)]
     omega
theorem getD_app {r s:List Int} {k:Nat} (h:k<r.length):(r++s).getD k 0=r.getD k 0:=by simp[List.getD,List.getElem?_append_left h]
theorem YY (b:Bool):Good (ja b):=by
 intro r x n hb h
 cases b with
 |false=>exact sign_good r x n hb h
 |true=>
  unfold ja at h
  simp only[if_true]at h
  split at h
  ·cases h
  ·next c=>
   simp only[Option.some.injEq,Prod.mk.injEq]at h
   have:=hex_len (r:=r) (by omega)
   omega
theorem qv (b:Bool):Good (yz b):=by
 intro r x n hb h
 unfold yz at h
 cases e:ja b r with
 |none=>rw[e]at h;cases h
 |some p=>
  obtain⟨lo,k⟩:=p
  have hk:=YY b r lo k hb e
  rw[e]at h
  simp only at h
  split at h
  ·cases e2:ja b (r.drop (k+1))with
   |none=>rw[e2]at h;cases h
   |some q=>
    obtain⟨to,m⟩:=q
    have hm:=YY b _ to m (U.zZ hb _) e2
    rw[List.length_drop]at hm
    rw[e2]at h
    simp only at h
    split at h
    ·cases h
    ·simp only[Option.some.injEq,Prod.mk.injEq]at h
     omega
  ·simp only[Option.some.injEq,Prod.mk.injEq]at h
   omega
theorem vy:Good jw:=by
 intro r x n hb h
 unfold jw at h
 split at h
 ·split at h
  ·next c=>
   simp only[Option.some.injEq,Prod.mk.injEq]at h
   have:=hex_len c.2
   rw[List.length_drop]at this
   omega
  ·cases h
 ·split at h
  ·cases h
  ·next c=>
   simp only[Option.some.injEq,Prod.mk.injEq]at h
   have:1≤r.length:=by
    cases r with
    |nil=>simp[List.getD]at c
    |cons=>simp
   omega
theorem gather_show {α:Type} {one:List Int→Option (α×Nat)} {stop:Int} (hg:Good one) (sh:α→List Int) (C:List Int→Prop) {s:List Int} (hs:U.zv s) (h0:0≤stop) (h1:stop≤255) (hC0:C (stop::s)):
  ∀(xs:List α),(∀x∈xs,sh x≠[]∧(sh x).getD 0 0≠stop∧U.zv (sh x)∧(∀u,C (sh x++u))∧∀u,U.zv u→C u→one (sh x++u)=some (x,(sh x).length))→
  yu one stop (xs.flatMap sh++stop::s)=some (xs,(xs.flatMap sh).length+1):=by
 intro xs
 induction xs with
 |nil=>intro _;rw[List.flatMap_nil,List.nil_append,vi (by simp) (by simp[List.getD])];rfl
 |cons x xs ih=>
  intro h
  obtain⟨x1,x2,x3,x4,x5⟩:=h x List.mem_cons_self
  have h':=fun y hy=>h y (List.mem_cons_of_mem x hy)
  have hbr:U.zv (xs.flatMap sh++stop::s):=by
   refine vv (fun z hz=> ?_) (ye h0 h1 hs)
   obtain⟨y,hy,hz⟩:=List.mem_flatMap.1 hz
   exact(h' y hy).2.2.1 z hz
  have hCr:C (xs.flatMap sh++stop::s):=by
   cases xs with
   |nil=>exact hC0
   |cons y ys=>
    rw[List.flatMap_cons,List.append_assoc]
    exact(h' y List.mem_cons_self).2.2.2.1 _
  have hl:1≤(sh x).length:=by cases hq:sh x<;>simp_all
  rw[List.flatMap_cons,List.append_assoc]
  rw[vo hg (vv x3 hbr) (by simp[x1]) (by rw[getD_app (by omega)];exact x2) (x5 _ hbr hCr),List.drop_left,ih h']
  simp only[List.length_append]
  rw[Nat.add_assoc]
theorem gather_all {α:Type} {one:List Int→Option (α×Nat)} {stop:Int} (hg:Good one) (P:α→Prop) (hP:∀r x n,U.zv r→one r=some (x,n)→P x):∀(f:Nat) (r:List Int) (xs:List α) (m:Nat),U.zv r→r.length≤f→yu one stop r=some (xs,m)→∀x∈xs,P x:=by
 intro f
 induction f with
 |zero=>
  intro r xs m _ h e
  have:r=[]:=List.eq_nil_of_length_eq_zero (by omega)
  subst this
  rw[jQ]at e;cases e
 |succ f ih=>
  intro r xs m hb h e
  by_cases h0:r=[]
  ·subst h0;rw[jQ]at e;cases e
  ·by_cases hs:r.getD 0 0=stop
   ·rw[vi h0 hs]at e
    cases e
    intro x hx;cases hx
   ·cases ho:one r with
    |none=>rw[Xz h0 hs ho]at e;cases e
    |some p=>
     obtain⟨x,n⟩:=p
     have hn:=hg r x n hb ho
     rw[vo hg hb h0 hs ho]at e
     cases e2:yu one stop (r.drop n)with
     |none=>rw[e2]at e;cases e
     |some q=>
      obtain⟨ys,k⟩:=q
      rw[e2]at e
      simp only[Option.some.injEq,Prod.mk.injEq]at e
      obtain⟨rfl,rfl⟩:=e
      intro y hy
      rcases List.mem_cons.1 hy with rfl|hy
      ·exact hP r y n hb ho
      ·exact ih (r.drop n) ys k (U.zZ hb n) (by rw[List.length_drop];omega) e2 y hy
/-! ### Names -/
def nameB (x:List Int):Bool:=xi (x.getD 0 0)&&x.all isW
theorem let_w {z:Int} (h:xi z=true):isW z=true:=by unfold isW;rw[h];rfl
theorem let_zero:xi 0=false:=by decide
theorem w_zero:isW 0=false:=by decide
theorem tail_le (r:List Int):vQ r≤r.length:=by
 induction r with
 |nil=>exact Nat.le_refl _
 |cons z t ih=>simp only[vQ,List.length_cons];split<;>omega
theorem tail_all (r:List Int):∀z∈r.take (vQ r),isW z=true:=by
 induction r with
 |nil=>intro z hz;simp at hz
 |cons y t ih=>
  intro z hz
  simp only[vQ]at hz
  split at hz
  ·next h=>
   simp only[List.take_succ_cons,List.mem_cons]at hz
   rcases hz with rfl|hz
   ·exact h
   ·exact ih z hz
  ·simp at hz
theorem tail_app:∀(x s:List Int),(∀z∈x,isW z=true)→isW (s.getD 0 0)=false→vQ (x++s)=x.length:=by
 intro x
 induction x with
 |nil=>
  intro s _ h
  cases s with
  |nil=>rfl
  |cons z t=>
   have h':isW z=false:=h
   simp[vQ,h']
 |cons y t ih=>
  intro s hx h
  simp only[List.cons_append,vQ,List.length_cons]
  rw[if_pos (hx y List.mem_cons_self),ih s (fun z hz=>hx z (List.mem_cons_of_mem _ hz)) h]
theorem name_iff {x:List Int}:nameB x=true↔xi (x.getD 0 0)=true∧∀z∈x,isW z=true:=by
 unfold nameB
 rw[Bool.and_eq_true,List.all_eq_true]
theorem name_ne {x:List Int} (h:nameB x=true):x≠[]:=by
 intro e
 subst e
 have:=(name_iff.1 h).1
 simp[List.getD,let_zero]at this
theorem word_app {x s:List Int} (h:nameB x=true) (hs:isW (s.getD 0 0)=false):yY (x++s)=x.length:=by
 have hn:=name_iff.1 h
 cases x with
 |nil=>exact absurd rfl (name_ne h)
 |cons y t=>
  unfold yY
  rw[if_pos (by exact hn.1)]
  simp only[List.cons_append,List.drop_succ_cons,List.drop_zero,List.length_cons]
  rw[tail_app t s (fun z hz=>hn.2 z (List.mem_cons_of_mem _ hz)) hs]
theorem word_le (r:List Int):yY r≤r.length:=by
 unfold yY
 split
 ·next h=>
  cases r with
  |nil=>simp[List.getD,let_zero]at h
  |cons z t=>have:=tail_le t;simp only[List.drop_succ_cons,List.drop_zero,List.length_cons];omega
 ·omega
theorem word_take {r:List Int} (h:xi (r.getD 0 0)=true):nameB (r.take (yY r))=true∧1≤yY r:=by
 cases r with
 |nil=>simp[List.getD,let_zero]at h
 |cons z t=>
  have hz:xi z=true:=h
  unfold yY
  rw[if_pos h]
  refine⟨name_iff.2 ⟨?_,?_⟩,by omega⟩
  ·simp only[List.drop_succ_cons,List.drop_zero,List.take_succ_cons];exact hz
  ·intro y hy
   simp only[List.drop_succ_cons,List.drop_zero,List.take_succ_cons,List.mem_cons]at hy
   rcases hy with rfl|hy
   ·exact let_w hz
   ·exact tail_all t y hy
theorem marks_name:∀m∈marks,nameB m=true:=by decide
/-! ### Tokens that may be -/
def okT (t:Tk):Prop:=
 (t.1=0∧nameB t.2.1=true∧t.2.1.length≤12∧t.2.2=[])∨(t.1=5∧t.2.1∈marks∧t.2.2=[])∨(t.1=4∧(∃c,c∈signs∧t.2.1=[c])∧t.2.2=[])∨
 (t.1=1∧t.2.1≠[]∧U.zv t.2.1∧t.2.2=[])∨(t.1=3∧t.2.1=[]∧G.zo t.2.2=true∧∀r∈t.2.2,r.2≤255)∨
 (t.1=2∧t.2.1=[]∧G.zo t.2.2=true∧∀n,G.hasB t.2.2 n=true→U.zo n=true)
theorem has_end {r:List (Int×Int)} (h:G.zo r=true) {p:Int×Int} (hp:p∈r):G.hasB r p.1=true∧G.hasB r p.2=true:=by
 have:=G.may_mem h hp
 unfold G.hasB
 rw[List.any_eq_true,List.any_eq_true]
 exact⟨⟨p,hp,by simp;omega⟩,⟨p,hp,by simp;omega⟩⟩
theorem class_self {r:List (Int×Int)} (h:G.zo r=true) (hs:∀n,G.hasB r n=true→U.zo n=true):kK false r=r:=by
 refine(class_is false r).unique (G.Is.self h) fun n=> ?_
 simp only[Bool.false_eq_true,if_false]
 cases e:G.hasB r n with
 |false=>simp
 |true=>rw[hs n e];rfl
theorem sign_facts:∀c∈signs,xi c=false∧c≠64∧Zw c=false∧0≤c∧c≤255:=by decide
theorem okI_of {b:Bool} {r:List (Int×Int)} (h:G.zo r=true) (hb:if b then∀p∈r,p.2≤255 else∀n,G.hasB r n=true→U.zo n=true):∀p∈r,okI b p:=by
 intro p hp
 have hm:=G.may_mem h hp
 have he:=has_end h hp
 cases b with
 |true=>
  simp only[if_true]at hb
  have:=hb p hp
  unfold okI okO
  simp only[if_true]
  omega
 |false=>
  simp only[Bool.false_eq_true,if_false]at hb
  unfold okI okO
  simp only[Bool.false_eq_true,if_false]
  exact⟨hm.2.1,hb _ he.1,hb _ he.2⟩
theorem Z9 {b:Bool} {p:Int×Int} (h:okI b p):xZ b p≠[]∧(xZ b p).getD 0 0=(xe b p.1).getD 0 0∧U.zv (xZ b p):=by
 obtain⟨h1,h2,h3⟩:=h
 have hne:xe b p.1≠[]:=by
  rcases show_head (b:=b) h2 with c|c
  ·exact c.1
  ·exact c.2.1
 have hl:0<(xe b p.1).length:=by cases hq:xe b p.1<;>simp_all
 unfold xZ
 split
 ·exact⟨by simp[hne],getD_app hl,vv (Ye h2) (ye (by omega) (by omega) (Ye h3))⟩
 ·exact⟨hne,rfl,Ye h2⟩
theorem items_show {b:Bool} {stop:Int} (hstop:stop=if b then 62 else 93) {l:List (Int×Int)} (h:∀p∈l,okI b p) {s:List Int} (hs:U.zv s):
  yu (yz b) stop (l.flatMap (xZ b)++stop::s)=some (l,(l.flatMap (xZ b)).length+1):=by
 have hst:0≤stop∧stop≤255∧stop≠45:=by subst hstop;cases b<;>simp
 refine gather_show (qv b) (xZ b) (fun u=>u.getD 0 0≠45) hs hst.1 hst.2.1 hst.2.2 l fun p hp=> ?_
 have hok:=h p hp
 obtain⟨f1,f2,f3⟩:=Z9 hok
 have hl:0<(xZ b p).length:=by cases hq:xZ b p<;>simp_all
 have hh:(xe b p.1).getD 0 0≠45∧(xe b p.1).getD 0 0≠stop:=by
  subst hstop
  rcases show_head (b:=b) hok.2.1 with c|c
  ·cases b
   ·exact⟨c.2.1,c.2.2.1⟩
   ·exact⟨c.2.1,c.2.2.2⟩
  ·obtain⟨rfl,c1,c2,c3⟩:=c
   exact⟨c2,c3⟩
 exact⟨f1,by rw[f2];exact hh.2,f3,fun u=>by rw[getD_app hl,f2];exact hh.1,fun u hu hC=>item_show hok hu hC⟩
theorem pieces_show {l:List Int} (h:U.zv l) {s:List Int} (hs:U.zv s):yu jw 34 (l.flatMap vJ++34::s)=some (l,(l.flatMap vJ).length+1):=by
 refine gather_show vy vJ (fun _=>True) hs (by omega) (by omega) trivial l fun c hc=> ?_
 have hb:=h c hc
 refine⟨piece_head.1,piece_head.2,?_,fun _=>trivial,fun u _ _=>piece_show hb.1 hb.2 u⟩
 intro z hz
 unfold vJ at hz
 split at hz
 ·next hr=>simp at hz;omega
 ·unfold hex2 at hz
  simp only[List.mem_cons,List.not_mem_nil,or_false]at hz
  have d1:=vj (d:=c/16) (by omega) (by omega)
  have d2:=vj (d:=c%16) (by omega) (by omega)
  rcases hz with rfl|rfl|rfl|rfl<;>omega
theorem tok_text {t:Tk} (h:okT t) {s:List Int} (hs:U.zv s) (hw:isW (s.getD 0 0)=false):xJ (jz t++s)=some (t,(jz t).length):=by
 obtain⟨k,x,r⟩:=t
 unfold okT at h
 simp only at h
 rcases h with ⟨rfl,h1,h2,rfl⟩|⟨rfl,h1,rfl⟩|⟨rfl,⟨c,h1,rfl⟩,rfl⟩|⟨rfl,h1,h2,rfl⟩|⟨rfl,rfl,h1,h2⟩|⟨rfl,rfl,h1,h2⟩
 ·have e:jz (0,x,[])=x:=rfl
  have hn:=name_iff.1 h1
  have hl:0<x.length:=by have:=name_ne h1;cases x<;>simp_all
  rw[e]
  unfold xJ
  rw[getD_app hl,if_pos hn.1,word_app h1 hw,if_neg (by omega),List.take_left]
 ·have e:jz (5,x,[])=64::x:=rfl
  have hn:=marks_name x h1
  rw[e]
  unfold xJ
  have e0:(64::x++s).getD 0 0=64:=rfl
  have e1:(64::x++s).drop 1=x++s:=rfl
  rw[e0,e1,if_neg (by decide),if_pos rfl,word_app hn hw,List.take_left,if_pos h1]
  rfl
 ·have e:jz (4,[c],[])=[c]:=rfl
  have f:=sign_facts c h1
  rw[e]
  unfold xJ
  have e0:([c]++s).getD 0 0=c:=rfl
  rw[e0,if_neg (by rw[f.1];simp),if_neg f.2.1,if_pos h1]
  rfl
 ·have e:jz (1,x,[])=34::(x.flatMap vJ++[34]):=rfl
  rw[e]
  unfold xJ
  have e0:(34::(x.flatMap vJ++[34])++s).getD 0 0=34:=rfl
  have e1:(34::(x.flatMap vJ++[34])++s).drop 1=x.flatMap vJ++34::s:=by simp
  rw[e0,e1,if_neg (by decide),if_neg (by decide),if_neg (by decide),if_pos rfl,pieces_show h2 hs]
  simp only
  rw[if_neg h1]
  simp
 ·have e:jz (3,[],r)=60::(r.flatMap (xZ true)++[62]):=rfl
  rw[e]
  unfold xJ
  have e0:(60::(r.flatMap (xZ true)++[62])++s).getD 0 0=60:=rfl
  have e1:(60::(r.flatMap (xZ true)++[62])++s).drop 1=r.flatMap (xZ true)++62::s:=by simp
  rw[e0,e1,if_neg (by decide),if_neg (by decide),if_neg (by decide),if_neg (by decide),if_pos rfl,items_show (b:=true) (stop:=62) rfl (okI_of (b:=true) h1 h2) hs]
  simp only
  rw[norm_self h1]
  simp
 ·have e:jz (2,[],r)=91::(r.flatMap (xZ false)++[93]):=rfl
  have hok:=okI_of (b:=false) h1 h2
  rw[e]
  have e0:(91::(r.flatMap (xZ false)++[93])++s).getD 0 0=91:=rfl
  have e2:Zi (91::(r.flatMap (xZ false)++[93])++s)=0:=by
   unfold Zi
   rw[if_neg]
   cases r with
   |nil=>simp[List.getD]
   |cons p q=>
    have hp:=hok p List.mem_cons_self
    obtain⟨f1,f2,f3⟩:=Z9 hp
    have hl:0<(xZ false p).length:=by cases hq:xZ false p<;>simp_all
    have e3:(91::((p::q).flatMap (xZ false)++[93])++s).getD 1 0=(xZ false p).getD 0 0:=by
     rw[List.flatMap_cons]
     have:(91::((xZ false p++q.flatMap (xZ false))++[93])++s)=91::(xZ false p++(q.flatMap (xZ false)++[93]++s)):=by simp
     rw[this]
     show(xZ false p++(q.flatMap (xZ false)++[93]++s)).getD 0 0=_
     exact getD_app hl
    rw[e3,f2]
    unfold xe
    simp only[Bool.false_eq_true,if_false]
    by_cases hpl:plainB p.1=true
    ·have:=plain_iff.1 hpl
     rw[if_pos hpl]
     show p.1≠94
     omega
    ·rw[if_neg hpl];simp[List.getD]
  have e1:(91::(r.flatMap (xZ false)++[93])++s).drop 1=r.flatMap (xZ false)++93::s:=by simp
  unfold xJ
  rw[e0,e2,e1,if_neg (by decide),if_neg (by decide),if_neg (by decide),if_neg (by decide),if_neg (by decide),if_pos rfl,items_show (b:=false) (stop:=93) rfl hok hs]
  simp only
  rw[show(decide ((0:Nat)=1))=false from rfl,class_self h1 h2]
  simp
theorem one_hex {r:List Int} {x:Int} {n:Nat} (h:ja true r=some (x,n)):0≤x∧x≤255:=by
 unfold ja at h
 simp only[if_true]at h
 split at h
 ·cases h
 ·simp only[Option.some.injEq,Prod.mk.injEq]at h
  have:=hex_range r
  omega
theorem item_hex {r:List Int} {x:Int×Int} {n:Nat} (h:yz true r=some (x,n)):0≤x.1∧x.1≤x.2∧x.2≤255:=by
 unfold yz at h
 cases e:ja true r with
 |none=>rw[e]at h;cases h
 |some p=>
  obtain⟨lo,k⟩:=p
  have h1:=one_hex e
  rw[e]at h
  simp only at h
  split at h
  ·cases e2:ja true (r.drop (k+1))with
   |none=>rw[e2]at h;cases h
   |some q=>
    obtain⟨to,m⟩:=q
    have h2:=one_hex e2
    rw[e2]at h
    simp only at h
    split at h
    ·cases h
    ·simp only[Option.some.injEq,Prod.mk.injEq]at h
     obtain⟨rfl,_⟩:=h
     simp only
     omega
  ·simp only[Option.some.injEq,Prod.mk.injEq]at h
   obtain⟨rfl,_⟩:=h
   simp only
   omega
theorem piece_byte {r:List Int} {x:Int} {n:Nat} (h:jw r=some (x,n)):0≤x∧x≤255:=by
 unfold jw at h
 split at h
 ·split at h
  ·simp only[Option.some.injEq,Prod.mk.injEq]at h
   have:=hex_range (r.drop 2)
   omega
  ·cases h
 ·split at h
  ·cases h
  ·simp only[Option.some.injEq,Prod.mk.injEq]at h
   omega
theorem has_mem {l:List (Int×Int)} {n:Int} (h:G.hasB l n=true):∃p∈l,p.1≤n∧n≤p.2:=by
 unfold G.hasB at h
 rw[List.any_eq_true]at h
 obtain⟨p,hp,h⟩:=h
 simp only[Bool.and_eq_true,decide_eq_true_eq]at h
 exact⟨p,hp,h⟩
theorem tok_ok {r:List Int} (hb:U.zv r) {t:Tk} {n:Nat} (h:xJ r=some (t,n)):okT t∧1≤n∧n≤r.length:=by
 unfold xJ at h
 split at h
 ·next h1=>
  split at h
  ·cases h
  ·next h2=>
   simp only[Option.some.injEq,Prod.mk.injEq]at h
   obtain⟨rfl,rfl⟩:=h
   have:=word_take h1
   have wl:=word_le r
   exact⟨.inl ⟨rfl,this.1,by simp only[List.length_take];omega,rfl⟩,this.2,wl⟩
 ·split at h
  ·next h1=>
   split at h
   ·next h2=>
    simp only[Option.some.injEq,Prod.mk.injEq]at h
    obtain⟨rfl,rfl⟩:=h
    have wl:=word_le (r.drop 1)
    have hl:1≤r.length:=by
     cases r with
     |nil=>simp[List.getD]at h1
     |cons=>simp
    rw[List.length_drop]at wl
    exact⟨.inr (.inl ⟨rfl,h2,rfl⟩),by omega,by omega⟩
   ·cases h
  ·split at h
   ·next h1=>
    simp only[Option.some.injEq,Prod.mk.injEq]at h
    obtain⟨rfl,rfl⟩:=h
    have hl:1≤r.length:=by
     cases r with
     |nil=>simp[List.getD,signs]at h1
     |cons=>simp
    exact⟨.inr (.inr (.inl ⟨rfl,⟨_,h1,rfl⟩,rfl⟩)),by omega,hl⟩
   ·split at h
    ·cases e:yu jw 34 (r.drop 1)with
     |none=>rw[e]at h;cases h
     |some q=>
      obtain⟨x,m⟩:=q
      rw[e]at h
      simp only at h
      split at h
      ·cases h
      ·next h2=>
       simp only[Option.some.injEq,Prod.mk.injEq]at h
       obtain⟨rfl,rfl⟩:=h
       have gl:=gather_len vy _ _ _ _ (U.zZ hb 1) (Nat.le_refl _) e
       rw[List.length_drop]at gl
       exact⟨.inr (.inr (.inr (.inl ⟨rfl,h2,gather_all vy (fun z=>0≤z∧z≤255) (fun _ _ _ _ ho=>piece_byte ho) _ _ _ _ (U.zZ hb 1) (Nat.le_refl _) e,rfl⟩))),by omega,by omega⟩
    ·split at h
     ·cases e:yu (yz true) 62 (r.drop 1)with
      |none=>rw[e]at h;cases h
      |some q=>
       obtain⟨l,m⟩:=q
       rw[e]at h
       simp only[Option.some.injEq,Prod.mk.injEq]at h
       obtain⟨rfl,rfl⟩:=h
       have gl:=gather_len (qv true) _ _ _ _ (U.zZ hb 1) (Nat.le_refl _) e
       rw[List.length_drop]at gl
       have ga:=gather_all (qv true) (fun x:Int×Int=>0≤x.1∧x.1≤x.2∧x.2≤255) (fun _ _ _ _ ho=>item_hex ho) _ _ _ _ (U.zZ hb 1) (Nat.le_refl _) e
       refine⟨.inr (.inr (.inr (.inr (.inl ⟨rfl,rfl,(jj l).1,fun p hp=> ?_⟩)))),by omega,by omega⟩
       have:=(has_end (jj l).1 hp).2
       rw[(jj l).2]at this
       unfold inN at this
       rw[Bool.and_eq_true]at this
       obtain⟨q,hq,h3⟩:=has_mem this.2
       have:=ga q hq
       omega
     ·split at h
      ·cases e:yu (yz false) 93 (r.drop (1+Zi r))with
       |none=>rw[e]at h;cases h
       |some q=>
        obtain⟨l,m⟩:=q
        rw[e]at h
        simp only[Option.some.injEq,Prod.mk.injEq]at h
        obtain⟨rfl,rfl⟩:=h
        have gl:=gather_len (qv false) _ _ _ _ (U.zZ hb (1+Zi r)) (Nat.le_refl _) e
        rw[List.length_drop]at gl
        refine⟨.inr (.inr (.inr (.inr (.inr ⟨rfl,rfl,(class_is _ l).1,fun n hn=> ?_⟩)))),by omega,by omega⟩
        rw[(class_is _ l).2,Bool.and_eq_true]at hn
        exact hn.1
      ·cases h
/-! ### A text's tokens -/
theorem all_fuel:∀(f g a c:Nat) (r:List Int),U.zv r→r.length≤f→r.length≤g→allF f a c r=allF g a c r:=by
 intro f
 induction f with
 |zero=>
  intro g a c r hb h1 h2
  have:r=[]:=List.eq_nil_of_length_eq_zero (by omega)
  subst this
  cases g<;>simp[allF]
 |succ f ih=>
  intro g a c r hb h1 h2
  cases g with
  |zero=>
   have:r=[]:=List.eq_nil_of_length_eq_zero (by omega)
   subst this
   simp[allF]
  |succ g=>
   simp only[allF]
   split
   ·rfl
   ·next h0=>
    have hl:1≤r.length:=by cases r<;>simp_all
    split
    ·exact ih g (a+1) c (r.drop 1) (U.zZ hb 1) (by rw[List.length_drop];omega) (by rw[List.length_drop];omega)
    ·cases e:xJ r with
     |none=>rfl
     |some p=>
      obtain⟨t,n⟩:=p
      have:=tok_ok hb e
      simp only
      rw[ih g (a+n) (c-1) (r.drop n) (U.zZ hb n) (by rw[List.length_drop];omega) (by rw[List.length_drop];omega)]
def j7 (a c:Nat) (r:List Int):Sum (Nat×Int) (List (Tk×Nat)):=allF r.length a c r
theorem Yj (a c:Nat):j7 a c []= .inr []:=rfl
theorem all_blank {a c:Nat} {r:List Int} (hb:U.zv r) (h:r≠[]) (h1:Zw (r.getD 0 0)=true):j7 a c r=j7 (a+1) c (r.drop 1):=by
 unfold j7
 obtain⟨k,hk⟩:∃k,r.length=k+1:=⟨r.length-1,by cases r<;>simp_all⟩
 rw[hk]
 simp only[allF]
 rw[if_neg h,if_pos h1]
 exact all_fuel _ _ _ _ _ (U.zZ hb 1) (by rw[List.length_drop];omega) (Nat.le_refl _)
theorem all_bad {a c:Nat} {r:List Int} (h:r≠[]) (h1:Zw (r.getD 0 0)=false) (h2:xJ r=none):j7 a c r= .inl (a,2):=by
 unfold j7
 obtain⟨k,hk⟩:∃k,r.length=k+1:=⟨r.length-1,by cases r<;>simp_all⟩
 rw[hk]
 simp only[allF]
 rw[if_neg h,h1,h2]
 simp
theorem all_many {a:Nat} {r:List Int} (h:r≠[]) (h1:Zw (r.getD 0 0)=false) {t:Tk} {n:Nat} (h2:xJ r=some (t,n)):j7 a 0 r= .inl (a,7):=by
 unfold j7
 obtain⟨k,hk⟩:∃k,r.length=k+1:=⟨r.length-1,by cases r<;>simp_all⟩
 rw[hk]
 simp only[allF]
 rw[if_neg h,h1,h2]
 simp
def consS (p:Tk×Nat):Sum (Nat×Int) (List (Tk×Nat))→Sum (Nat×Int) (List (Tk×Nat))
 | .inl e=> .inl e
 | .inr l=> .inr (p::l)
theorem all_tok {a c:Nat} {r:List Int} (hb:U.zv r) (h:r≠[]) (h1:Zw (r.getD 0 0)=false) {t:Tk} {n:Nat} (h2:xJ r=some (t,n)):j7 a (c+1) r=consS (t,a) (j7 (a+n) c (r.drop n)):=by
 have hn:=tok_ok hb h2
 unfold j7
 obtain⟨k,hk⟩:∃k,r.length=k+1:=⟨r.length-1,by cases r<;>simp_all⟩
 rw[hk]
 simp only[allF]
 rw[if_neg h,h1,h2]
 simp only[Bool.false_eq_true,if_false,Nat.add_one_ne_zero,Nat.add_sub_cancel]
 rw[all_fuel k (r.drop n).length (a+n) c (r.drop n) (U.zZ hb n) (by rw[List.length_drop];omega) (Nat.le_refl _)]
 cases allF (r.drop n).length (a+n) c (r.drop n)<;>rfl
theorem all_cases (r:List Int):r=[]∨(r≠[]∧Zw (r.getD 0 0)=true)∨(r≠[]∧Zw (r.getD 0 0)=false∧xJ r=none)∨(r≠[]∧Zw (r.getD 0 0)=false∧∃t n,xJ r=some (t,n)):=by
 by_cases h:r=[]
 ·exact .inl h
 ·right
  cases e:Zw (r.getD 0 0)with
  |true=>exact .inl ⟨h,rfl⟩
  |false=>
   right
   cases e2:xJ r with
   |none=>exact .inl ⟨h,rfl,rfl⟩
   |some p=>exact .inr ⟨h,rfl,p.1,p.2,rfl⟩
theorem all_fewer:∀(f:Nat) (r:List Int) (a c c':Nat),U.zv r→r.length≤f→c'≤c→
  (∀l,j7 a c r= .inr l→l.length≤c∧(l.length≤c'→j7 a c' r= .inr l)∧(c'<l.length→∃p,j7 a c' r= .inl (p,7)))∧
  (∀e,j7 a c r= .inl e→j7 a c' r= .inl e∨∃p,j7 a c' r= .inl (p,7)):=by
 intro f
 induction f with
 |zero=>
  intro r a c c' hb h hc
  have:r=[]:=List.eq_nil_of_length_eq_zero (by omega)
  subst this
  rw[Yj,Yj]
  exact⟨fun l e=>by cases e;simp,fun e h=>by cases h⟩
 |succ f ih=>
  intro r a c c' hb h hc
  rcases all_cases r with rfl|⟨h0,h1⟩|⟨h0,h1,h2⟩|⟨h0,h1,t,n,h2⟩
  ·rw[Yj,Yj]
   exact⟨fun l e=>by cases e;simp,fun e h=>by cases h⟩
  ·have hl:1≤r.length:=by cases r<;>simp_all
   rw[all_blank hb h0 h1,all_blank hb h0 h1]
   exact ih (r.drop 1) (a+1) c c' (U.zZ hb 1) (by rw[List.length_drop];omega) hc
  ·rw[all_bad h0 h1 h2,all_bad h0 h1 h2]
   exact⟨fun l e=>(by cases e),fun e h=> .inl h⟩
  ·have hn:=tok_ok hb h2
   cases c with
   |zero=>
    obtain rfl:c'=0:=by omega
    rw[all_many h0 h1 h2]
    exact⟨fun l e=>(by cases e),fun e h=> .inl h⟩
   |succ c=>
    rw[all_tok hb h0 h1 h2]
    cases c' with
    |zero=>
     rw[all_many h0 h1 h2]
     have i:=ih (r.drop n) (a+n) c c (U.zZ hb n) (by rw[List.length_drop];omega) (Nat.le_refl _)
     refine⟨fun l e=> ?_,fun e _=> .inr ⟨_,rfl⟩⟩
     cases e2:j7 (a+n) c (r.drop n)with
     |inl q=>rw[e2]at e;cases e
     |inr q=>
      rw[e2]at e
      cases e
      have:=(i.1 q e2).1
      refine⟨by simp;omega,fun h=>by simp at h,fun _=>⟨_,rfl⟩⟩
    |succ c'=>
     have i:=ih (r.drop n) (a+n) c c' (U.zZ hb n) (by rw[List.length_drop];omega) (by omega)
     rw[all_tok hb h0 h1 h2]
     refine⟨fun l e=> ?_,fun e h=> ?_⟩
     ·cases e2:j7 (a+n) c (r.drop n)with
      |inl q=>rw[e2]at e;cases e
      |inr q=>
       rw[e2]at e
       cases e
       obtain⟨i1,i2,i3⟩:=i.1 q e2
       refine⟨by simp;omega,fun h=> ?_,fun h=> ?_⟩
       ·rw[i2 (by simp at h;omega)];rfl
       ·obtain⟨p,hp⟩:=i3 (by simp at h;omega)
        exact⟨p,by rw[hp];rfl⟩
     ·cases e2:j7 (a+n) c (r.drop n)with
      |inr q=>rw[e2]at h;cases h
      |inl q=>
       rw[e2]at h
       have hq:=i.2 q e2
       cases h
       rcases hq with j|⟨p,j⟩
       ·left;rw[j];rfl
       ·right;exact⟨p,by rw[j];rfl⟩
def joinS (l:List (Tk×Nat)):Sum (Nat×Int) (List (Tk×Nat))→Sum (Nat×Int) (List (Tk×Nat))
 | .inl e=> .inl e
 | .inr k=> .inr (l++k)
theorem join_nil (x:Sum (Nat×Int) (List (Tk×Nat))):joinS [] x=x:=by cases x<;>rfl
theorem all_ok:∀(f:Nat) (r:List Int) (a c:Nat) (l:List (Tk×Nat)),U.zv r→r.length≤f→j7 a c r= .inr l→∀p∈l,okT p.1:=by
 intro f
 induction f with
 |zero=>
  intro r a c l hb h e
  have:r=[]:=List.eq_nil_of_length_eq_zero (by omega)
  subst this
  rw[Yj]at e
  cases e
  intro p hp;cases hp
 |succ f ih=>
  intro r a c l hb h e
  rcases all_cases r with rfl|⟨h0,h1⟩|⟨h0,h1,h2⟩|⟨h0,h1,t,n,h2⟩
  ·rw[Yj]at e
   cases e
   intro p hp;cases hp
  ·have hl:1≤r.length:=by cases r<;>simp_all
   rw[all_blank hb h0 h1]at e
   exact ih (r.drop 1) (a+1) c l (U.zZ hb 1) (by rw[List.length_drop];omega) e
  ·rw[all_bad h0 h1 h2]at e;cases e
  ·have hn:=tok_ok hb h2
   cases c with
   |zero=>rw[all_many h0 h1 h2]at e;cases e
   |succ c=>
    rw[all_tok hb h0 h1 h2]at e
    cases e2:j7 (a+n) c (r.drop n)with
    |inl q=>rw[e2]at e;cases e
    |inr q=>
     rw[e2]at e
     cases e
     intro p hp
     rcases List.mem_cons.1 hp with rfl|hp
     ·exact hn.1
     ·exact ih (r.drop n) (a+n) c q (U.zZ hb n) (by rw[List.length_drop];omega) e2 p hp
/-! ### Which tokens may be -/
theorem text_facts {t:Tk} (h:okT t):jz t≠[]∧Zw ((jz t).getD 0 0)=false∧U.zv (jz t):=by
 have hwb:∀z,isW z=true→Zw z=false∧0≤z∧z≤255:=by
  intro z hz
  unfold isW xi isDig at hz
  simp at hz
  unfold Zw
  simp
  omega
 obtain⟨k,x,r⟩:=t
 unfold okT at h
 simp only at h
 rcases h with ⟨rfl,h1,h2,rfl⟩|⟨rfl,h1,rfl⟩|⟨rfl,⟨c,h1,rfl⟩,rfl⟩|⟨rfl,h1,h2,rfl⟩|⟨rfl,rfl,h1,h2⟩|⟨rfl,rfl,h1,h2⟩
 ·have e:jz (0,x,[])=x:=rfl
  have hn:=name_iff.1 h1
  rw[e]
  exact⟨name_ne h1,(hwb _ (let_w hn.1)).1,fun z hz=>(hwb z (hn.2 z hz)).2⟩
 ·have e:jz (5,x,[])=64::x:=rfl
  have hn:=name_iff.1 (marks_name x h1)
  rw[e]
  exact⟨by simp,rfl,ye (by omega) (by omega) fun z hz=>(hwb z (hn.2 z hz)).2⟩
 ·have e:jz (4,[c],[])=[c]:=rfl
  have f:=sign_facts c h1
  rw[e]
  exact⟨by simp,f.2.2.1,ye f.2.2.2.1 f.2.2.2.2 fun z hz=>by cases hz⟩
 ·have e:jz (1,x,[])=34::(x.flatMap vJ++[34]):=rfl
  rw[e]
  refine⟨by simp,rfl,ye (by omega) (by omega) (vv (fun z hz=> ?_) (ye (by omega) (by omega) fun z hz=>by cases hz))⟩
  obtain⟨c,hc,hz⟩:=List.mem_flatMap.1 hz
  have hb:=h2 c hc
  unfold vJ at hz
  split at hz
  ·simp at hz;omega
  ·unfold hex2 at hz
   simp only[List.mem_cons,List.not_mem_nil,or_false]at hz
   have d1:=vj (d:=c/16) (by omega) (by omega)
   have d2:=vj (d:=c%16) (by omega) (by omega)
   rcases hz with rfl|rfl|rfl|rfl<;>omega
 ·have e:jz (3,[],r)=60::(r.flatMap (xZ true)++[62]):=rfl
  rw[e]
  refine⟨by simp,rfl,ye (by omega) (by omega) (vv (fun z hz=> ?_) (ye (by omega) (by omega) fun z hz=>by cases hz))⟩
  obtain⟨p,hp,hz⟩:=List.mem_flatMap.1 hz
  exact(Z9 (okI_of (b:=true) h1 h2 p hp)).2.2 z hz
 ·have e:jz (2,[],r)=91::(r.flatMap (xZ false)++[93]):=rfl
  rw[e]
  refine⟨by simp,rfl,ye (by omega) (by omega) (vv (fun z hz=> ?_) (ye (by omega) (by omega) fun z hz=>by cases hz))⟩
  obtain⟨p,hp,hz⟩:=List.mem_flatMap.1 hz
  exact(Z9 (okI_of (b:=false) h1 h2 p hp)).2.2 z hz
theorem parts_ok {t:Tk} (h:okT t):partsB t=true:=by
 obtain⟨k,x,r⟩:=t
 unfold okT at h
 simp only at h
 unfold partsB
 rcases h with ⟨rfl,h1,h2,rfl⟩|⟨rfl,h1,rfl⟩|⟨rfl,⟨c,h1,rfl⟩,rfl⟩|⟨rfl,h1,h2,rfl⟩|⟨rfl,rfl,h1,h2⟩|⟨rfl,rfl,h1,h2⟩
 ·rfl
 ·rfl
 ·rfl
 ·rfl
 ·simp only[h1]
  simp
  intro a b hab
  exact h2 (a,b) hab
 ·simp only[h1]
  simp
  intro a b hab
  have:=has_end h1 hab
  exact⟨h2 _ this.1,h2 _ this.2⟩
theorem allL_is {s:List Int} (h:s.length≤3000):kV s=j7 0 600 s:=by
 unfold kV j7
 rw[if_neg (by omega)]
theorem all_text {t:Tk} (h:okT t) (hl:(jz t).length≤3000):kV (jz t)= .inr [(t,0)]:=by
 obtain⟨f1,f2,f3⟩:=text_facts h
 have e:=tok_text h (s:=[]) (fun z hz=>by cases hz) (by simp[List.getD,w_zero])
 rw[List.append_nil]at e
 rw[allL_is hl,all_tok f3 f1 f2 e,List.drop_of_length_le (Nat.le_refl _),Yj]
 rfl
theorem qQ {t:Tk} (hb:U.zv (jz t)):mayL t=true↔okT t∧(jz t).length≤3000:=by
 constructor
 ·intro h
  unfold mayL at h
  rw[Bool.and_eq_true]at h
  obtain⟨_,h⟩:=h
  have hl:(jz t).length≤3000:=by
   by_cases hh:(jz t).length≤3000
   ·exact hh
   ·unfold kV at h
    rw[if_pos (by omega)]at h
    cases h
  refine⟨?_,hl⟩
  rw[allL_is hl]at h
  split at h
  ·next u p e=>
   have:=all_ok _ _ _ _ _ hb (Nat.le_refl _) e (u,p) (by simp)
   rw[decide_eq_true_eq]at h
   subst h
   exact this
  ·cases h
 ·rintro⟨h,hl⟩
  unfold mayL
  rw[parts_ok h,all_text h hl]
  simp
/-! ### Texts of several tokens -/
/-! ### A blank between -/
theorem all_bound {s:List Int} (hs:U.zv s) {a:List (Tk×Nat)} (ha:kV s= .inr a):a.length≤600:=by
 have hl:s.length≤3000:=by
  by_cases hh:s.length≤3000
  ·exact hh
  ·unfold kV at ha
   rw[if_pos (by omega)]at ha
   cases ha
 rw[allL_is hl]at ha
 exact((all_fewer _ s 0 600 600 hs (Nat.le_refl _) (Nat.le_refl _)).1 a ha).1
/-! ### Lits -/
/-! ### Names -/
/-! ### Sets behind a ^ -/
theorem allF_err:∀(f a c:Nat) (r:List Int) (e:Nat×Int),allF f a c r= .inl e→e.2=2∨e.2=7:=by
 intro f
 induction f with
 |zero=>intro a c r e h;cases h
 |succ f ih=>
  intro a c r e h
  unfold allF at h
  split at h
  ·cases h
  ·split at h
   ·exact ih _ _ _ _ h
   ·split at h
    ·injection h with h;subst h;exact .inl rfl
    ·split at h
     ·injection h with h;subst h;exact .inr rfl
     ·split at h
      ·next e' he=>injection h with h;subst h;exact ih _ _ _ _ he
      ·cases h
theorem allL_err {s:List Int} {p:Nat} {er:Int} (h:kV s= .inl (p,er)):er=2∨er=7:=by
 unfold kV at h
 split at h
 ·injection h with h;injection h with h1 h2;exact .inr h2.symm
 ·exact allF_err _ _ _ _ _ h
theorem allF_at:∀(f a c:Nat) (r:List Int) (l:List (Tk×Nat)),U.zv r→allF f a c r= .inr l→∀p∈l,p.2≤a+r.length:=by
 intro f
 induction f with
 |zero=>intro a c r l _ h p hp;injection h with h;subst h;cases hp
 |succ f ih=>
  intro a c r l hb h p hp
  unfold allF at h
  split at h
  ·injection h with h;subst h;cases hp
  ·next hr=>
   have hl:0<r.length:=by cases r<;>simp_all
   split at h
   ·have:=ih _ _ _ _ (fun z hz=>hb z (List.mem_of_mem_drop hz)) h p hp
    rw[List.length_drop]at this
    omega
   ·split at h
    ·cases h
    ·next t n ht=>
     have hn:=(tok_ok hb ht).2.2
     split at h
     ·cases h
     ·split at h
      ·cases h
      ·next l' he=>
       injection h with h;subst h
       rcases List.mem_cons.1 hp with rfl|hp
       ·simp
       ·have:=ih _ _ _ _ (fun z hz=>hb z (List.mem_of_mem_drop hz)) he p hp
        rw[List.length_drop]at this
        omega
theorem allL_at {s:List Int} (hb:U.zv s) {l:List (Tk×Nat)} (h:kV s= .inr l):∀p∈l,p.2≤s.length:=by
 unfold kV at h
 split at h
 ·cases h
 ·intro p hp
  have:=allF_at _ _ _ _ _ hb h p hp
  simpa using this
end Go.Proofs.YtcblkmlcbedomaaGreatDoor.T

/- Parts of the proof that stand ahead of it (ReachTells 10). -/
import Derived.Test.YtcblkmlcbedomaaGreatDoorRM2
import Derived.Test.YtcblkmlcbedomaaGreatDoorReachTellsM1
import Derived.Test.YtcblkmlcbedomaaGreatDoorReachTellsM8
import Derived.Test.YtcblkmlcbedomaaGreatDoorRM12
set_option linter.unusedVariables false
set_option linter.unusedSimpArgs false
set_option maxRecDepth 20000
set_option maxHeartbeats 16000000
namespace Go.Proofs.YtcblkmlcbedomaaGreatDoor.Rc
open Go.Proofs.YtcblkmlcbedomaaGreatDoor.F
theorem Wi.last {P:List PRD} {n:Nat} {x:Int} (h:Wi P n x):∃m:Nat,x∈symsN P m:=by
 obtain⟨k,h⟩:=h
 cases k with
 |zero=>exact⟨n,h⟩
 |succ k=>obtain⟨m,-,h⟩:=h;exact⟨m,h⟩
theorem cntF_mono {f g:Nat→Bool}:∀(n:Nat),(∀i,f i=true→g i=true)→Xw n g≤Xw n f:=by
 intro n
 induction n with
 |zero=>intro _;exact Nat.le_refl _
 |succ n ih=>
  intro h
  have:=ih h
  unfold Xw
  by_cases e:f n=true
  ·rw[e,h n e];simp;omega
  ·have e2:f n=false:=by simpa using e
   rw[e2];simp;split<;>omega
theorem Tx.pr {P:List PRD} {x:Int} (h:Tx P x):∃n:Nat,x=(n:Int)∧prT P (Tx P) n:=by
 obtain⟨k,h⟩:=h
 cases k with
 |zero=>exact h.elim
 |succ k=>
  obtain⟨n,e,p,hp,a,ha,hl⟩:=h
  exact⟨n,e,p,hp,a,ha,alT_mono (fun _ h=>⟨k,h⟩) hl⟩
structure Rd2 (N:Nat) (D:List Bool→Nat→Prop) (W:Nat→Prop) (k:Nat) (S:List Bool):Prop where
 len:S.length=N
 snd:∀m,bt S m=true→W m
 go:(∀q,q<N→D S q→bt S q=true)∨Xw N (bt S)+k≤N
theorem Rd2.zero (N:Nat) (D:List Bool→Nat→Prop) (W:Nat→Prop):Rd2 N D W 0 (List.replicate N false):=by
 refine⟨by simp,fun m h=> ?_,.inr (cntF_le _ _)⟩
 unfold bt at h
 rw[List.getD_eq_getElem?_getD,List.getElem?_replicate]at h
 split at h<;>cases h
theorem bt_ext {S S':List Bool} (hl:S.length=S'.length) (h:∀m,bt S m=bt S' m):S=S':=by
 apply List.ext_getElem hl
 intro i h1 h2
 have:=h i
 unfold bt at this
 rw[List.getD_eq_getElem?_getD,List.getD_eq_getElem?_getD,List.getElem?_eq_getElem h1,List.getElem?_eq_getElem h2]at this
 exact this
theorem bt_in {S:List Bool} {m:Nat} (h:bt S m=true):m<S.length:=by
 rcases Nat.lt_or_ge m S.length with h1|h1
 ·exact h1
 ·unfold bt at h
  rw[List.getD_eq_getElem?_getD,List.getElem?_eq_none h1]at h
  cases h
theorem cntF_lt {f g:Nat→Bool} {m:Nat} (hf:f m=false) (hg:g m=true) (hu:∀i,f i=true→g i=true):∀N,m<N→Xw N g+1≤Xw N f:=by
 intro N hm
 have e:=XW (f:=f) (g:=fun i=>if i=m then true else f i) hf (by simp) (fun i hi=>by simp[hi]) N hm
 have:=cntF_mono (f:=fun i=>if i=m then true else f i) (g:=g) N (fun i hi=>by
  by_cases c:i=m
  ·subst c;exact hg
  ·simp only[c,if_false]at hi;exact hu i hi)
 omega
theorem Rd2.round {N k:Nat} {D:List Bool→Nat→Prop} {W:Nat→Prop} {S0 S:List Bool} (h:Rd2 N D W k S0) (least:∀S,S.length=N→(∀q,q<N→D S q→bt S q=true)→∀q,q<N→W q→bt S q=true)
  (hl:S.length=N) (up:∀m,bt S0 m=true→bt S m=true) (snd:∀m,bt S m=true→W m) (all:∀q,q<N→D S0 q→bt S q=true):Rd2 N D W (k+1) S:=by
 refine⟨hl,snd,?_⟩
 by_cases hs:∀m,bt S m=true→bt S0 m=true
 ·have e:S=S0:=bt_ext (by rw[hl,h.len]) (fun m=>Bool.eq_iff_iff.2 ⟨hs m,up m⟩)
  subst e
  exact .inl all
 ·have ⟨m,hm⟩:=Classical.not_forall.1 hs
  have ⟨h1,h2⟩:=Classical.not_imp.1 hm
  have hmN:m<N:=by rw[←hl];exact bt_in h1
  have h2':bt S0 m=false:=by
   cases e:bt S0 m with
   |false=>rfl
   |true=>exact absurd e h2
  rcases h.go with c|c
  ·exact absurd (least S0 h.len c m hmN (snd m h1)) h2
  ·have:=cntF_lt h2' h1 up N hmN
   exact .inr (by omega)
theorem Rd2.done {N:Nat} {D:List Bool→Nat→Prop} {W:Nat→Prop} {S:List Bool} (h:Rd2 N D W N S) (least:∀S,S.length=N→(∀q,q<N→D S q→bt S q=true)→∀q,q<N→W q→bt S q=true) {m:Nat} (hm:m<N):bt S m=true↔W m:=by
 refine⟨h.snd m,fun hw=> ?_⟩
 rcases h.go with c|c
 ·exact least S h.len c m hm hw
 ·cases e:bt S m with
  |true=>rfl
  |false=>
   have:=cntF_lt (g:=fun _=>true) e rfl (fun _ _=>rfl) N hm
   omega
def DFrom (P:List PRD) (n:Nat) (S:List Bool) (q:Nat):Prop:=∃i,i<P.length∧(i=n∨bt S i=true)∧(q:Int)∈symsN P i
theorem least_from {P:List PRD} {n:Nat} (hn:n<P.length) (hr:∀i x,x∈symsN P i→∃q:Nat,x=(q:Int)∧q<P.length) (S:List Bool) (hl:S.length=P.length) (hc:∀q,q<P.length→DFrom P n S q→bt S q=true) (q:Nat) (hq:q<P.length) (hw:Wi P n (q:Int)):bt S q=true:=by
 have key:∀(k q:Nat),q<P.length→wi P k n (q:Int)→bt S q=true:=by
  intro k
  induction k with
  |zero=>intro q hq h;exact hc q hq ⟨n,hn,.inl rfl,h⟩
  |succ k ih=>
   intro q hq h
   obtain⟨m,h1,h2⟩:=h
   have hm:m<P.length:=by
    rcases Nat.lt_or_ge m P.length with c|c
    ·exact c
    ·unfold symsN at h2
     rw[List.getElem?_eq_none c]at h2
     cases h2
   exact hc q hq ⟨m,hm,.inr (ih m hm h1),h2⟩
 obtain⟨k,h⟩:=hw
 exact key k q hq h
theorem snd_from {P:List PRD} {n:Nat} {S:List Bool} (hs:∀m,bt S m=true→Wi P n (m:Int)) {i:Nat} {x:Int} (hi:i=n∨bt S i=true) (hx:x∈symsN P i):Wi P n x:=by
 rcases hi with rfl|hi
 ·exact Wi.one hx
 ·exact Wi.more (hs i hi) hx
theorem least_makes {P:List PRD} (S:List Bool) (hl:S.length=P.length) (hc:∀q,q<P.length→prT P (kn S) q→bt S q=true) (q:Nat) (hq:q<P.length) (hw:Tx P (q:Int)):bt S q=true:=by
 have:=Tx.least (T:=fun x=>∃q:Nat,x=(q:Int)∧bt S q=true) (fun n h=> ?_) hw
 ·obtain⟨q',e,h⟩:=this
  obtain rfl:q=q':=by omega
  exact h
 ·refine⟨n,rfl,hc n ?_ ?_⟩
  ·obtain⟨p,hp,-⟩:=h
   exact(List.getElem?_eq_some_iff.1 hp).1
  ·obtain⟨p,hp,a,ha,hs⟩:=h
   refine⟨p,hp,a,ha,alT_mono (fun x ⟨q,e,hq⟩=> ?_) hs⟩
   subst e
   simpa [kn,bt] using hq
def RfI (P:List PRD) (n k i:Nat) (L:List Int) (S:List Bool):Prop:=∃S0,Rd2 P.length (DFrom P n) (fun m=>Wi P n (m:Int)) k S0∧S.length=P.length∧(∀m,bt S0 m=true→bt S m=true)∧(∀m,bt S m=true→Wi P n (m:Int))∧
 (∀i',i'<i→(i'=n∨bt S0 i'=true)→∀q:Nat,(q:Int)∈symsN P i'→bt S q=true)∧((i=n∨bt S0 i=true)→∀q:Nat,(q:Int)∈L→bt S q=true)
theorem RfI.first {P:List PRD} {n k:Nat} {S:List Bool} (h:Rd2 P.length (DFrom P n) (fun m=>Wi P n (m:Int)) k S):RfI P n k 0 [] S:=
 ⟨S,h,h.len,fun _ h=>h,h.snd,fun i hi=>absurd hi (Nat.not_lt_zero _),fun _ q hq=>(by cases hq)⟩
theorem RfI.len {P:List PRD} {n k i:Nat} {L:List Int} {S:List Bool} (h:RfI P n k i L S):S.length=P.length:=by
 obtain⟨-,-,h,-⟩:=h
 exact h
theorem RfI.mark {P:List PRD} {n k i q:Nat} {L:List Int} {S:List Bool} (h:RfI P n k i L S) (hi:i=n∨bt S i=true) (hq:(q:Int)∈symsN P i) (hl:q<P.length):RfI P n k i (L++[(q:Int)]) (S.set q true):=by
 obtain⟨S0,h0,h1,h2,h3,h4,h5⟩:=h
 have e:∀m,bt (S.set q true) m=if m=q then true else bt S m:=fun m=>Xo (by omega) m
 have up:∀m,bt S m=true→bt (S.set q true) m=true:=fun m hm=>by rw[e];split<;>first|rfl|exact hm
 refine⟨S0,h0,by rw[List.length_set];exact h1,fun m hm=>up m (h2 m hm),fun m hm=> ?_,fun i' hi' hc x hx=>up x (h4 i' hi' hc x hx),fun hc x hx=> ?_⟩
 ·rw[e]at hm
  by_cases c:m=q
  ·subst c;exact snd_from h3 hi hq
  ·rw[if_neg c]at hm;exact h3 m hm
 ·rcases List.mem_append.1 hx with hx|hx
  ·exact up x (h5 hc x hx)
  ·have c:x=q:=by have:=List.mem_singleton.1 hx;omega
   rw[e,if_pos c]
theorem RfI.next {P:List PRD} {n k i:Nat} {L:List Int} {S:List Bool} (h:RfI P n k i L S) (hL:(i=n∨bt S i=true)→L=symsN P i):RfI P n k (i+1) [] S:=by
 obtain⟨S0,h0,h1,h2,h3,h4,h5⟩:=h
 refine⟨S0,h0,h1,h2,h3,fun i' hi' hc q hq=> ?_,fun _ q hq=>(by cases hq)⟩
 rcases Nat.lt_succ_iff_lt_or_eq.1 hi' with c|c
 ·exact h4 i' c hc q hq
 ·subst c
  have e:=hL (hc.elim .inl (fun x=> .inr (h2 _ x)))
  exact h5 hc q (by rw[e];exact hq)
theorem RfI.round {P:List PRD} {n k:Nat} {S:List Bool} (h:RfI P n k P.length [] S) (hn:n<P.length) (hr:∀i x,x∈symsN P i→∃q:Nat,x=(q:Int)∧q<P.length):Rd2 P.length (DFrom P n) (fun m=>Wi P n (m:Int)) (k+1) S:=by
 obtain⟨S0,h0,h1,h2,h3,h4,-⟩:=h
 exact h0.round (fun S hl hc q hq hw=>least_from hn hr S hl hc q hq hw) h1 h2 h3 (fun q hq ⟨i,hi,hc,hx⟩=>h4 i hi hc q hx)
def RmI (P:List PRD) (k i j:Nat) (S:List Bool):Prop:=∃S0,Rd2 P.length (fun S q=>prT P (kn S) q) (fun m=>Tx P (m:Int)) k S0∧S.length=P.length∧(∀m,bt S0 m=true→bt S m=true)∧(∀m,bt S m=true→Tx P (m:Int))∧
 (∀i',i'<i→prT P (kn S0) i'→bt S i'=true)∧(∀p,P[i]? =some p→∀a∈p.1.take j,alT (kn S0) a→bt S i=true)
theorem RmI.first {P:List PRD} {k:Nat} {S:List Bool} (h:Rd2 P.length (fun S q=>prT P (kn S) q) (fun m=>Tx P (m:Int)) k S):RmI P k 0 0 S:=
 ⟨S,h,h.len,fun _ h=>h,h.snd,fun i hi=>absurd hi (Nat.not_lt_zero _),fun p _ a ha=>(by rw[List.take_zero]at ha;cases ha)⟩
theorem kn_mono {S S':List Bool} (h:∀m,bt S m=true→bt S' m=true) (x:Int) (hx:kn S x):kn S' x:=h _ hx
theorem kn_snd {P:List PRD} {S:List Bool} (h:∀m,bt S m=true→Tx P (m:Int)) {p:PRD} {i:Nat} (hp:P[i]? =some p) {a:List SY} (ha:a∈p.1) (hr:∀s∈a,s.1=0∨s.1=1∨(s.1=2∧0≤s.2.2)) (hs:alT (kn S) a):Tx P (i:Int):=by
 refine Tx.of ⟨p,hp,a,ha,fun s hm=> ?_⟩
 have hk:=hs s hm
 unfold syT at hk⊢
 rcases hr s hm with c|c|⟨c,c2⟩
 ·rw[if_pos c]at hk⊢;exact hk
 ·have c0:s.1≠0:=by omega
  rw[if_neg c0,if_pos c]at hk⊢;exact hk
 ·have c0:s.1≠0:=by omega
  have c1:s.1≠1:=by omega
  rw[if_neg c0,if_neg c1]at hk⊢
  have:=h _ hk
  rwa [Int.toNat_of_nonneg c2]at this
theorem RmI.alt {P:List PRD} {k i j:Nat} {S:List Bool} {p:PRD} {a:List SY} {all:Bool} (h:RmI P k i j S) (hp:P[i]? =some p) (ha:p.1[j]? =some a) (hr:∀s∈a,s.1=0∨s.1=1∨(s.1=2∧0≤s.2.2)) (hall:all=true↔alT (kn S) a):RmI P k i (j+1) (S.set i (bt S i||all)):=by
 obtain⟨S0,h0,h1,h2,h3,h4,h5⟩:=h
 have hiP:=(List.getElem?_eq_some_iff.1 hp).1
 have e:∀m,bt (S.set i (bt S i||all)) m=if m=i then (bt S i||all)else bt S m:=fun m=>by
  unfold bt
  simp only[List.getD_eq_getElem?_getD,List.getElem?_set]
  by_cases c:m=i
  ·subst c;rw[if_pos rfl,if_pos rfl,if_pos (by omega)];rfl
  ·rw[if_neg (fun x=>c x.symm),if_neg c]
 have up:∀m,bt S m=true→bt (S.set i (bt S i||all)) m=true:=fun m hm=>by
  rw[e]
  by_cases c:m=i
  ·subst c;rw[if_pos rfl,hm];rfl
  ·rw[if_neg c];exact hm
 obtain⟨hj,ea⟩:=List.getElem?_eq_some_iff.1 ha
 have ham:a∈p.1:=List.mem_of_getElem? ha
 refine⟨S0,h0,by rw[List.length_set];exact h1,fun m hm=>up m (h2 m hm),fun m hm=> ?_,fun i' hi' hc=>up i' (h4 i' hi' hc),fun p' hp' b hb hs=> ?_⟩
 ·rw[e]at hm
  by_cases c:m=i
  ·subst c
   rw[if_pos rfl]at hm
   rcases Bool.or_eq_true_iff.1 hm with hm|hm
   ·exact h3 m hm
   ·exact kn_snd h3 hp ham hr (hall.1 hm)
  ·rw[if_neg c]at hm;exact h3 m hm
 ·rw[hp]at hp'
  cases hp'
  rw[List.take_succ_eq_append_getElem hj]at hb
  rcases List.mem_append.1 hb with hb|hb
  ·exact up i (h5 p hp b hb hs)
  ·rw[List.mem_singleton.1 hb,ea]at hs
   rw[e,if_pos rfl,hall.2 (alT_mono (fun x hx=>kn_mono h2 x hx) hs),Bool.or_true]
theorem RmI.next {P:List PRD} {k i:Nat} {S:List Bool} {p:PRD} (h:RmI P k i p.1.length S) (hp:P[i]? =some p):RmI P k (i+1) 0 S:=by
 obtain⟨S0,h0,h1,h2,h3,h4,h5⟩:=h
 refine⟨S0,h0,h1,h2,h3,fun i' hi' hc=> ?_,fun p _ a ha=>(by rw[List.take_zero]at ha;cases ha)⟩
 rcases Nat.lt_succ_iff_lt_or_eq.1 hi' with c|c
 ·exact h4 i' c hc
 ·subst c
  obtain⟨p',hp',a,ha,hs⟩:=hc
  rw[hp]at hp'
  cases hp'
  exact h5 p hp a (by rw[List.take_length];exact ha) hs
theorem RmI.round {P:List PRD} {k:Nat} {S:List Bool} (h:RmI P k P.length 0 S):Rd2 P.length (fun S q=>prT P (kn S) q) (fun m=>Tx P (m:Int)) (k+1) S:=by
 obtain⟨S0,h0,h1,h2,h3,h4,-⟩:=h
 exact h0.round (fun S hl hc q hq hw=>least_makes S hl hc q hq hw) h1 h2 h3 (fun q hq hc=>h4 q hq hc)
end Go.Proofs.YtcblkmlcbedomaaGreatDoor.Rc
set_option linter.unusedVariables false
set_option linter.unusedSimpArgs false
set_option maxRecDepth 20000
set_option maxHeartbeats 16000000
namespace Go.Proofs.YtcblkmlcbedomaaGreatDoor.Nl
open Go.RowKit Go.Shelf Go.Proofs.YtcblkmlcbedomaaGreatDoor.T Go.Proofs.YtcblkmlcbedomaaGreatDoor.R Go.Proofs.YtcblkmlcbedomaaGreatDoor.F
theorem eqG_iff {α:Type} (e:α→α→Bool) (he:∀x y,e x y=true↔x=y):∀(l m:List α),eqG e l m=true↔l=m:=by
 intro l
 induction l with
 |nil=>intro m;cases m<;>simp[eqG]
 |cons x l ih=>intro m;cases m<;>simp[eqG,he,ih]
end Go.Proofs.YtcblkmlcbedomaaGreatDoor.Nl
namespace Go.Proofs.YtcblkmlcbedomaaGreatDoor.Rc
open Go.RowKit Go.Shelf Go.Proofs.YtcblkmlcbedomaaGreatDoor.T Go.Proofs.YtcblkmlcbedomaaGreatDoor.R Go.Proofs.YtcblkmlcbedomaaGreatDoor.F Go.Proofs.YtcblkmlcbedomaaGreatDoor.Nl Go.Proofs.YtcblkmlcbedomaaGreatDoor.K
theorem same_len {S S':List Bool} (h:S.length=S'.length) (k:∀m,S.getD m false=true↔S'.getD m false=true):S=S':=by
 apply List.ext_getElem h
 intro i h1 h2
 have:=k i
 rw[List.getD_eq_getElem?_getD,List.getD_eq_getElem?_getD,List.getElem?_eq_getElem h1,List.getElem?_eq_getElem h2]at this
 simp only[Option.getD_some]at this
 exact Bool.eq_iff_iff.2 this
theorem fromS.uniq {g:GR} {n:Int} {S S':List Bool} (h:fromS g n S) (h':fromS g n S'):S=S':=by
 rcases h with ⟨a,b,c,h1,h2⟩|⟨a,rfl⟩
 ·rcases h' with ⟨-,-,-,h3,h4⟩|⟨a',-⟩
  ·exact same_len (by omega) (fun m=>(h2 m).trans (h4 m).symm)
  ·exact absurd ⟨a,b,c⟩ a'
 ·rcases h' with ⟨a',b,c,-⟩|⟨-,rfl⟩
  ·exact absurd ⟨a',b,c⟩ a
  ·rfl
def LostIs (S:List Bool) (r:Int):Prop:=(∃k:Nat,r=(k:Int)∧1≤k∧k<S.length∧S.getD k false=false∧∀j,1≤j→j<k→S.getD j false=true)∨(r= -1∧∀j,1≤j→j<S.length→S.getD j false=true)
theorem set_at {S:List Bool} {j:Nat} (hj:1≤j):(S.set 0 true)[j]? =S[j]? :=by
 rw[List.getElem?_set_ne (by omega)]
theorem not_no {S:List Bool} {j:Nat} (hj:j<S.length) (h:S[j]?≠some false):S.getD j false=true:=by
 rw[List.getD_eq_getElem?_getD]
 rw[List.getElem?_eq_getElem hj]at h⊢
 cases e:S[j]with
 |true=>rfl
 |false=>rw[e]at h;exact absurd rfl h
theorem lost_is {S:List Bool} {r:Int} (h1:1≤S.length) (h:FirstAt (S.set 0 true) false r):LostIs S r:=by
 rcases h with ⟨k,rfl,hk,hj⟩|⟨rfl,hj⟩
 ·have k1:1≤k:=by
   rcases Nat.eq_zero_or_pos k with h|h
   ·subst h
    rw[List.getElem?_set_self (by omega)]at hk
    cases hk
   ·exact h
  rw[set_at k1]at hk
  have hl:=(List.getElem?_eq_some_iff.1 hk).1
  refine .inl ⟨k,rfl,k1,hl,by rw[List.getD_eq_getElem?_getD,hk];rfl,fun j j1 j2=>not_no (by omega) (by have:=hj j j2;rwa [set_at j1]at this)⟩
 ·exact .inr ⟨rfl,fun j j1 j2=>not_no j2 (by have:=hj j;rwa [set_at j1]at this)⟩
theorem LostIs.at {S:List Bool} {r:Int} {k:Nat} (h:LostIs S r) (k1:1≤k) (hk:k<S.length) (hA:∀j,1≤j→j<k→S.getD j false=true) (hn:S.getD k false=false):r=(k:Int):=by
 rcases h with ⟨i,rfl,h1,h2,h3,h4⟩|⟨-,h4⟩
 ·rcases Nat.lt_trichotomy i k with h|h|h
  ·have:=hA i h1 h;rw[h3]at this;cases this
  ·rw[h]
  ·have:=h4 k k1 h;rw[hn]at this;cases this
 ·have:=h4 k k1 hk;rw[hn]at this;cases this
theorem LostIs.no {S:List Bool} {r:Int} (h:LostIs S r) (hA:∀j,1≤j→j<S.length→S.getD j false=true):r= -1:=by
 rcases h with ⟨i,rfl,h1,h2,h3,h4⟩|⟨h,-⟩
 ·have:=hA i h1 h2;rw[h3]at this;cases this
 ·exact h
end Go.Proofs.YtcblkmlcbedomaaGreatDoor.Rc
namespace Go.Proofs.YtcblkmlcbedomaaGreatDoor.Nl
open Go.RowKit Go.Shelf Go.Proofs.YtcblkmlcbedomaaGreatDoor.T Go.Proofs.YtcblkmlcbedomaaGreatDoor.R Go.Proofs.YtcblkmlcbedomaaGreatDoor.F
theorem AltM.get {w:World} {a:Option Addr} {n c:Nat} {A:List (List SY)} (h:AltM w (.slice a n c) A) {k:Nat} {l:List SY} (hk:A[k]? =some l):∃g off x cc,a=some ⟨g,off,none⟩∧g<w.heap.size∧w.cell? ⟨g,off+k,none⟩=some (.slice x l.length cc)∧SyM w (.slice x l.length cc) l∧l.length≤cc∧cc≤maxLen:=by
 obtain⟨a',c',e,-,-,h3⟩:=h
 injection e with e1 e2 e3
 subst e1
 obtain⟨g,off,u,ha,hg,q0,hs⟩:=h3 k l hk
 obtain⟨x,cc,rfl,h1,h2,-⟩:=id hs
 exact⟨g,off,x,cc,ha,hg,q0,hs,h1,h2⟩
theorem gramB_no {P:List PRD} {p:PRD} (hp:p∈P) (h:prodB p P.length=false):gramB P=false:=by
 unfold gramB
 have:(P.all fun p=>prodB p P.length)=false:=by
  rw[Bool.eq_false_iff];intro c;rw[List.all_eq_true]at c;rw[c p hp]at h;cases h
 rw[this];simp
theorem gramB_yes {P:List PRD} (h:(P.all fun p=>prodB p P.length)=true):gramB P=(decide (1≤P.length)&&decide (P.length≤60)):=by
 unfold gramB;rw[h];simp
def altB (many:Int) (l:List SY):Bool:=decide (l.length≤40)&&l.all fun s=>symB s many
theorem prodB_alts {p:PRD} {many:Int} (h1:1≤p.1.length) (h8:p.1.length≤8) (h0:0≤p.2.1) (h63:p.2.1≤63) (hm:G.zo p.2.2=true):prodB p many=p.1.all (altB many):=by
 unfold prodB fitsB
 rw[hm]
 simp only[h1,h8,h0,h63,decide_true,Bool.true_and]
 rw[Bool.eq_iff_iff]
 simp only[Bool.and_eq_true,Bool.not_eq_true',List.any_eq_false,List.all_eq_true,altB,longB,decide_eq_true_eq]
 constructor
 ·rintro⟨a,b⟩ l hl
  have:=a l hl
  exact⟨by simpa using this,fun s hs=>b l hl s hs⟩
 ·intro c
  exact⟨fun l hl=>by simpa using (c l hl).1,fun l hl s hs=>(c l hl).2 s hs⟩
theorem all_take' {α:Type} (f:α→Bool) {l:List α} {k:Nat} (h:k<l.length):(l.take (k+1)).all f=((l.take k).all f&&f l[k]):=by
 rw[List.take_succ_eq_append_getElem h,List.all_append];simp
theorem all_no' {α:Type} {f:α→Bool} {l:List α} {x:α} (hx:x∈l) (h:f x=false):l.all f=false:=by
 rw[Bool.eq_false_iff];intro c;rw[List.all_eq_true]at c;rw[c x hx]at h;cases h
theorem cells3p {W:World} {g:Nat} {x0 x1 x2:Value} {t:TypeId} (h:W.heap[g]? =some (.cells #[x0,x1,x2] t)):
  W.cell? ⟨g,0,none⟩=some x0∧W.cell? ⟨g,1,none⟩=some x1∧W.cell? ⟨g,2,none⟩=some x2:=by
 refine⟨?_,?_,?_⟩<;>simp[World.cell?,h]
theorem may8_l (v:Value) (g:GR) (w:World) (h:GrM w v g):
  Calls Tryz.prog 40 #[v] w fun e w'=>e= .returned (.bool (gramB g.1))∧Below w.heap.size w w':=by
 obtain⟨a,c,aK,cK,rfl,hp,-⟩:=id h
 obtain⟨P,K⟩:=g
 simp only at hp⊢
 obtain⟨a0,c0,e0,hc1,hc2,h3⟩:=id hp
 injection e0 with e1 e2 e3
 subst e1;subst e3
 unfold maxLen at hc2
 have H3:=zk h3
 have CS:=zk (fun(s:SY) a c W h=>sym8_l s a c P.length W h)
 generalize K.length=nK at*
 clear h hp h3 e2
 go_enter Tryz.func40,Tryz.ntmps40
 go_wp2_with fail
 have G0:=zk (heap_alloc_new w (.cells #[.slice a P.length c,.slice aK nK cK] 25))
 have B0:=zk (Below.new1 (w:=w) (.cells #[.slice a P.length c,.slice aK nK cK] 25))
 generalize hw0:(w.alloc (.cells #[.slice a P.length c,.slice aK nK cK] 25))=w0 at*
 clear hw0
 go_loopw [3] (fun i wr=>∃(j:Nat),j≤P.length∧i= .int .i64 (j:Int)∧Hid ((P.take j).all (fun p=>prodB p P.length)=true)∧Hid (Below w0.heap.size w0 wr)) (fun i _=>P.length-(intOf i).toNat)
 case atStart=>exact⟨0,Nat.zero_le _,rfl,rfl,Below.refl _ _⟩
 case round=>
  obtain⟨j,hj,rfl,hO,hB⟩:=hrel
  generalize hWo:wr=Wo at*
  clear hWo
  have G1:=((zq hB).block _ (Array.getElem?_eq_some_iff.1 (zq G0)).1).trans (zq G0)
  obtain⟨y0,y1,-,-⟩:=ncells2 G1
  have BW:=zk (Xj (zq B0) (zq hB))
  by_cases hlt:j<P.length
  ·obtain⟨p,hjp⟩:∃p,P[j]? =some p:=⟨P[j],by simp[hlt]⟩
   obtain⟨gp,off,u,u2,rfl,hg,q0,q1,q2,hA,hN⟩:=zq H3 j p hjp
   have hm:p∈P:=List.mem_of_getElem? hjp
   have r0:=((zq BW).cell (p:=⟨gp,off+3*j,none⟩) hg).trans q0
   have r1:=((zq BW).cell (p:=⟨gp,off+3*j+1,none⟩) hg).trans q1
   have r2:=((zq BW).cell (p:=⟨gp,off+3*j+2,none⟩) hg).trans q2
   have TJ:Hid ((P.take (j+1)).all (fun p=>prodB p P.length)=((P.take j).all (fun p=>prodB p P.length)&&prodB p P.length)):=by
    show _=_
    have e:P[j]=p:=Option.some.inj ((List.getElem?_eq_getElem hlt).symm.trans hjp)
    rw[all_take' _ hlt,e]
   have NO:=zk (fun(h:prodB p P.length=false)=>gramB_no hm h)
   obtain⟨aA,cA,rfl,hA1,hA2⟩:=hA.form
   obtain⟨aN,cN,rfl,rN⟩:=hN
   unfold maxLen at hA2
   have HA:=zk (hA.later (zq BW))
   have CM:=zk (fun W (bW:Below Wo.heap.size Wo W)=>rgRefMay_any aN p.2.2.length cN p.2.2 W (rN.later ((zq BW).trans (bW.mono (zq BW).size)) (Nat.le_refl _)))
   have j3:j*3=3*j:=by omega
   have BP:Below Wo.heap.size Wo (Wo.alloc (.cells #[.slice aA p.1.length cA,.int .i64 p.2.1,.slice aN p.2.2.length cN] 41)):=Below.new1 _
   have GP:=heap_alloc_new Wo (.cells #[.slice aA p.1.length cA,.int .i64 p.2.1,.slice aN p.2.2.length cN] 41)
   clear hjp hm hA q0 q1 q2 rN
   obtain⟨z0,z1,z2⟩:=cells3p GP
   go_wp2_with fail
   refine(zq CM _ BP).mono ?_
   rintro e w1 ⟨rfl,b1⟩
   have GP1:=(b1.block _ (Array.getElem?_eq_some_iff.1 GP).1).trans GP
   have B1:=zk (Xj BP b1)
   have BE:=zk (Xj (zq BW) (Xj BP b1))
   have BH:=zk (Xj (zq hB) (Xj BP b1))
   clear CM BP GP b1 z0 z1 z2 y0 y1 r0 r1 r2 G1
   obtain⟨z0,z1,z2⟩:=cells3p GP1
   cases hmay:G.zo p.2.2 with
   |false=>
    have FB:Hid (gramB P=false):=zq NO (by unfold prodB;rw[hmay];simp)
    clear hmay NO TJ hO
    go_wp2_with fail
    go_ret
    exact⟨ret_bool (zq FB).symm,zq BE⟩
   |true=>
    by_cases h1:1≤p.1.length
    case neg=>
     have b1:decide ((p.1.length:Int)<1)=true:=decide_eq_true (by omega)
     have b2:decide (p.1.length<1)=true:=decide_eq_true (by omega)
     have FB:Hid (gramB P=false):=zq NO (by unfold prodB fitsB;simp[h1])
     have hz:p.1.length=0:=by omega
     clear hmay NO TJ hO h1
     rw[hz]at z0 b1 b2
     clear hz hA1 hA2 HA
     go_wp2_with fail
     go_ret
     exact⟨ret_bool (zq FB).symm,zq BE⟩
    have b1:decide ((p.1.length:Int)<1)=false:=decide_eq_false (by omega)
    have b2:decide (p.1.length<1)=false:=decide_eq_false (by omega)
    by_cases h8:p.1.length≤8
    case neg=>
     have b3:decide (8<(p.1.length:Int))=true:=decide_eq_true (by omega)
     have b4:decide (8<p.1.length)=true:=decide_eq_true (by omega)
     have FB:Hid (gramB P=false):=zq NO (by unfold prodB fitsB;simp[h8])
     clear hmay NO TJ hO h8 h1 HA
     generalize p.1.length=nA at*
     go_wp2_with fail
     go_ret
     exact⟨ret_bool (zq FB).symm,zq BE⟩
    have b3:decide (8<(p.1.length:Int))=false:=decide_eq_false (by omega)
    have b4:decide (8<p.1.length)=false:=decide_eq_false (by omega)
    by_cases h0:0≤p.2.1
    case neg=>
     have b5:decide (p.2.1<0)=true:=decide_eq_true (by omega)
     have FB:Hid (gramB P=false):=zq NO (by unfold prodB;simp[h0])
     clear hmay NO TJ hO h8 h1 h0 HA
     generalize p.1.length=nA at*
     generalize p.2.1=mk at*
     go_wp2_with fail
     go_ret
     exact⟨ret_bool (zq FB).symm,zq BE⟩
    have b5:decide (p.2.1<0)=false:=decide_eq_false (by omega)
    by_cases h63:p.2.1≤63
    case neg=>
     have b6:decide (63<p.2.1)=true:=decide_eq_true (by omega)
     have FB:Hid (gramB P=false):=zq NO (by unfold prodB;simp[h63])
     clear hmay NO TJ hO h8 h1 h0 h63 HA
     generalize p.1.length=nA at*
     generalize p.2.1=mk at*
     go_wp2_with fail
     go_ret
     exact⟨ret_bool (zq FB).symm,zq BE⟩
    have b6:decide (63<p.2.1)=false:=decide_eq_false (by omega)
    have PA:=zk (prodB_alts (many:=(P.length:Int)) h1 h8 h0 h63 hmay)
    have HA2:=zk ((zq HA).later (zq B1))
    clear hmay h0 h63 h1 HA
    generalize p.2.1=mk at*
    go_wp2_with fail
    go_loopw [6] (fun i wr=>∃(k:Nat),k≤p.1.length∧i= .int .i64 (k:Int)∧Hid ((p.1.take k).all (altB P.length)=true)∧Hid (Below w1.heap.size w1 wr)) (fun i _=>p.1.length-(intOf i).toNat)
    case atStart=>exact⟨0,Nat.zero_le _,rfl,rfl,Below.refl _ _⟩
    case round=>
     obtain⟨k,hk,rfl,hO2,hB2⟩:=hrel
     have GP2:=((zq hB2).block _ (Array.getElem?_eq_some_iff.1 GP1).1).trans GP1
     clear z0 z1 z2
     obtain⟨z0,z1,z2⟩:=cells3p GP2
     by_cases hlt2:k<p.1.length
     ·obtain⟨l,hkl⟩:∃l,p.1[k]? =some l:=⟨p.1[k],by simp[hlt2]⟩
      obtain⟨gA,oA,aS,cS,rfl,hgA,s0,hSy,hS1,hS2⟩:=((zq HA2).later (zq hB2)).get hkl
      have TK:Hid ((p.1.take (k+1)).all (altB P.length)=((p.1.take k).all (altB P.length)&&altB P.length l)):=by
       show _=_
       have e:p.1[k]=l:=Option.some.inj ((List.getElem?_eq_getElem hlt2).symm.trans hkl)
       rw[all_take' _ hlt2,e]
      have NA:=zk (fun(h:altB P.length l=false)=>zq NO ((zq PA).trans (all_no' (List.mem_of_getElem? hkl) h)))
      unfold maxLen at hS2
      have HSY:=zk hSy
      clear hkl hSy
      by_cases h40:l.length≤40
      case neg=>
       have d1:decide (40<(l.length:Int))=true:=decide_eq_true (by omega)
       have d2:decide (40<l.length)=true:=decide_eq_true (by omega)
       have FB:Hid (gramB P=false):=zq NA (by unfold altB;simp[h40])
       have BR:=zk (Xj (zq BE) (zq hB2))
       clear NA TK hO2 TJ hO NO PA h40 HSY HA2
       generalize l.length=nl at*
       go_wp2_with fail
       go_ret
       exact⟨ret_bool (zq FB).symm,zq BR⟩
      have d1:decide (40<(l.length:Int))=false:=decide_eq_false (by omega)
      have d2:decide (40<l.length)=false:=decide_eq_false (by omega)
      generalize hWr:wr=W2 at*
      clear hWr
      go_wp2_with fail
      go_loopw [7] (fun i wr=>∃(m:Nat),m≤l.length∧i= .int .i64 (m:Int)∧Hid ((l.take m).all (fun s=>symB s P.length)=true)∧Hid (Below W2.heap.size W2 wr)) (fun i _=>l.length-(intOf i).toNat)
      case atStart=>exact⟨0,Nat.zero_le _,rfl,rfl,Below.refl _ _⟩
      case round=>
       obtain⟨m,hm,rfl,hO3,hB3⟩:=hrel
       have GP3:=((zq hB3).block _ (Array.getElem?_eq_some_iff.1 GP2).1).trans GP2
       clear z0 z1 z2
       obtain⟨z0,z1,z2⟩:=cells3p GP3
       have G3:=((Xj (zq BH) (Xj (zq hB2) (zq hB3))).block _ (Array.getElem?_eq_some_iff.1 (zq G0)).1).trans (zq G0)
       obtain⟨y0,y1,-,-⟩:=ncells2 G3
       have s3:=((zq hB3).cell (p:=⟨gA,oA+k,none⟩) hgA).trans s0
       by_cases hlt3:m<l.length
       ·obtain⟨gS,oS,s,x,kk,rfl,hgS,t0,t1,t2,hr,-,hdr,hmem⟩:=symM_at ((zq HSY).later (zq hB3)) m hlt3
        have CSS:=zk (fun W (bW:Below wr.heap.size wr W)=>zq CS s x kk W (hr.later bW (Nat.le_refl _)))
        have TM:Hid ((l.take (m+1)).all (fun s=>symB s P.length)=((l.take m).all (fun s=>symB s P.length)&&symB s P.length)):=by
         show _=_
         have e:l[m]=s:=by
          have:=List.drop_eq_getElem_cons hlt3
          rw[hdr]at this
          injection this with h1 h2
          exact h1.symm
         rw[all_take' _ hlt3,e]
        have NS:=zk (fun(h:symB s P.length=false)=>zq NA (by unfold altB;rw[all_no' (f:=fun s=>symB s P.length) hmem h];simp))
        have m3:m*3=3*m:=by omega
        obtain⟨sk,sr,sn⟩:=s
        simp only at t0 t1 t2 CSS
        have KS:=zk (fun(X:World) (b:Below wr.heap.size wr X)=>show X.cell? ⟨Wo.heap.size,0,none⟩=some (.slice (some ⟨gA,oA,none⟩) p.1.length cA)∧X.cell? ⟨gA,oA+k,none⟩=some (.slice (some ⟨gS,oS,none⟩) l.length cS)∧X.cell? ⟨gS,oS+3*m,none⟩=some (.int .i64 sk)∧X.cell? ⟨gS,oS+3*m+1,none⟩=some (.slice x sr.length kk)∧X.cell? ⟨gS,oS+3*m+2,none⟩=some (.int .i64 sn)∧X.cell? ⟨w.heap.size,0,none⟩=some (.slice (some ⟨gp,off,none⟩) P.length c) from
         ⟨(b.cell (zJ z0)).trans z0,(b.cell (zJ s3)).trans s3,(b.cell (zJ t0)).trans t0,(b.cell (zJ t1)).trans t1,(b.cell (zJ t2)).trans t2,(b.cell (zJ y0)).trans y0⟩)
        clear hr hdr hmem
        have bk0:(k:Int)<(p.1.length:Int):=by omega
        have bm0:(m:Int)<(l.length:Int):=by omega
        cases hsy:symB (sk,sr,sn) P.length with
        |false=>
         have FB:=zk (zq NS hsy)
         rw[hsy]at CSS
         clear hsy NS TM
         go_wp2_with fail
         go_region_held3 (fun w'=>w'.cell? ⟨Wo.heap.size,0,none⟩=some (.slice (some ⟨gA,oA,none⟩) p.1.length cA)∧w'.cell? ⟨gA,oA+k,none⟩=some (.slice (some ⟨gS,oS,none⟩) l.length cS)∧w'.cell? ⟨gS,oS+3*m,none⟩=some (.int .i64 sk)∧w'.cell? ⟨gS,oS+3*m+1,none⟩=some (.slice x sr.length kk)∧w'.cell? ⟨gS,oS+3*m+2,none⟩=some (.int .i64 sn)∧w'.cell? ⟨w.heap.size,0,none⟩=some (.slice (some ⟨gp,off,none⟩) P.length c))
          (first|exact zq KS _ bs5|exact zq KS _ (zX (k:=1))|exact zq KS _ (Below.refl _ _))
          ((go_at_call 71;refine(zq CSS _ (zX (k:=1))).mono ?_;rintro e w5 ⟨rfl,b5⟩;have bs5:=Xj (zX (w:=wr) (k:=1)) b5))
         go_wp2_with fail
         go_ret
         exact⟨ret_bool (zq FB).symm,Xj (zq BE) (Xj (zq hB2) (Xj (zq hB3) bs5))⟩
        |true=>
         have NX:Hid ((l.take (m+1)).all (fun s=>symB s P.length)=true):=by show _=_;rw[zq TM,zq hO3,hsy];rfl
         rw[hsy]at CSS
         clear hsy NS TM
         go_wp2_with fail
         go_region_held3 (fun w'=>w'.cell? ⟨Wo.heap.size,0,none⟩=some (.slice (some ⟨gA,oA,none⟩) p.1.length cA)∧w'.cell? ⟨gA,oA+k,none⟩=some (.slice (some ⟨gS,oS,none⟩) l.length cS)∧w'.cell? ⟨gS,oS+3*m,none⟩=some (.int .i64 sk)∧w'.cell? ⟨gS,oS+3*m+1,none⟩=some (.slice x sr.length kk)∧w'.cell? ⟨gS,oS+3*m+2,none⟩=some (.int .i64 sn)∧w'.cell? ⟨w.heap.size,0,none⟩=some (.slice (some ⟨gp,off,none⟩) P.length c))
          (first|exact zq KS _ bs5|exact zq KS _ (zX (k:=1))|exact zq KS _ (Below.refl _ _))
          ((go_at_call 71;refine(zq CSS _ (zX (k:=1))).mono ?_;rintro e w5 ⟨rfl,b5⟩;have bs5:=Xj (zX (w:=wr) (k:=1)) b5))
         have B5:=zk (Xj (zq hB3) bs5)
         clear b5 bs5
         go_wp2_with fail
         exact⟨⟨m+1,by omega,by simp,NX,B5⟩,by simp[intOf];omega⟩
       ·obtain rfl:m=l.length:=by omega
        have NX:Hid ((p.1.take (k+1)).all (altB P.length)=true):=by
         show _=_
         have e3:=zq hO3
         rw[List.take_length]at e3
         rw[zq TK,zq hO2]
         unfold altB
         rw[e3];simp[h40]
        have B3:=zk (Xj (zq hB2) (zq hB3))
        clear TK hO2 hO3
        go_wp2_with fail
        exact⟨⟨k+1,by omega,by simp,NX,B3⟩,by simp[intOf];omega⟩
     ·obtain rfl:k=p.1.length:=by omega
      have NX:Hid ((P.take (j+1)).all (fun p=>prodB p P.length)=true):=by
       show _=_
       have e2:=zq hO2
       rw[List.take_length]at e2
       rw[zq TJ,zq hO,zq PA,e2];rfl
      have B3:=zk (Xj (zq BH) (zq hB2))
      clear TJ hO PA hO2
      go_wp2_with fail
      exact⟨⟨j+1,by omega,by simp,NX,B3⟩,by simp[intOf];omega⟩
  ·obtain rfl:j=P.length:=by omega
   have FB:Hid (gramB P=(decide (1≤P.length)&&decide (P.length≤60))):=by
    have e:=zq hO
    rw[List.take_length]at e
    exact gramB_yes e
   clear hO H3 CS
   generalize P.length=n at*
   by_cases h1:1≤n
   ·have b1:decide ((1:Int)≤(n:Int))=true:=decide_eq_true (by omega)
    by_cases h60:n≤60
    ·have b2:decide ((n:Int)≤60)=true:=decide_eq_true (by omega)
     have FC:Hid (gramB P=true):=by show _=_;rw[zq FB];simp[h1,h60]
     clear FB h1 h60
     go_wp2_with fail
     go_ret
     exact⟨ret_bool (zq FC).symm,zq BW⟩
    ·have b2:decide ((n:Int)≤60)=false:=decide_eq_false (by omega)
     have FC:Hid (gramB P=false):=by show _=_;rw[zq FB];simp[h60]
     clear FB h1 h60
     go_wp2_with fail
     go_ret
     exact⟨ret_bool (zq FC).symm,zq BW⟩
   ·have b1:decide ((1:Int)≤(n:Int))=false:=decide_eq_false (by omega)
    have FC:Hid (gramB P=false):=by show _=_;rw[zq FB];simp[h1]
    clear FB h1
    go_wp2_with fail
    go_ret
    exact⟨ret_bool (zq FC).symm,zq BW⟩
end Go.Proofs.YtcblkmlcbedomaaGreatDoor.Nl
namespace Go.Proofs.YtcblkmlcbedomaaGreatDoor.Rc
open Go.RowKit Go.Shelf Go.Maps Go.Proofs.YtcblkmlcbedomaaGreatDoor.F Go.Proofs.YtcblkmlcbedomaaGreatDoor.Nl Go.Proofs.YtcblkmlcbedomaaGreatDoor.K
theorem alt_at {w:World} {a:Option Addr} {n c:Nat} {A:List (List SY)} (h:AltM w (.slice a n c) A) {k:Nat} {l:List SY} (hk:A[k]? =some l):∃g off x cc,a=some ⟨g,off,none⟩∧g<w.heap.size∧w.cell? ⟨g,off+k,none⟩=some (.slice x l.length cc)∧SyM w (.slice x l.length cc) l∧l.length≤cc∧cc≤maxLen:=by
 obtain⟨a',c',e,-,-,h3⟩:=h
 injection e with e1 e2 e3
 subst e1
 obtain⟨g,off,u,ha,hg,q0,hs⟩:=h3 k l hk
 obtain⟨x,cc,rfl,h1,h2,-⟩:=id hs
 exact⟨g,off,x,cc,ha,hg,q0,hs,h1,h2⟩
theorem sy_at {w:World} {a:Option Addr} {n c:Nat} {l:List SY} (h:SyM w (.slice a n c) l) {k:Nat} {s:SY} (hk:l[k]? =some s):∃g off,a=some ⟨g,off,none⟩∧g<w.heap.size∧w.cell? ⟨g,off+3*k,none⟩=some (.int .i64 s.1)∧w.cell? ⟨g,off+3*k+2,none⟩=some (.int .i64 s.2.2):=by
 obtain⟨a',c',e,-,-,h3⟩:=h
 injection e with e1 e2 e3
 subst e1
 obtain⟨g,off,x,kk,ha,hg,q0,-,q2,-⟩:=h3 k s hk
 exact⟨g,off,ha,hg,q0,q2⟩
theorem rng_all {P:List PRD} (hg:gramB P=true) (i:Nat) (x:Int) (h:x∈symsN P i):∃q:Nat,x=(q:Int)∧q<P.length:=by
 unfold symsN at h
 cases e:P[i]? with
 |none=>rw[e]at h;cases h
 |some p=>
  rw[e]at h
  exact(symsP_rng hg (List.mem_of_getElem? e)).2 x h
theorem mem_symsA {s:SY} (h2:s.1=2):∀{l:List SY},s∈l→s.2.2∈symsA l
 | [],h=>by cases h
 |a::l,h=>by
  unfold symsA
  rcases List.mem_cons.1 h with c|c
  ·subst c;rw[if_pos h2];exact List.mem_cons.2 (.inl rfl)
  ·split
   ·exact List.mem_cons.2 (.inr (mem_symsA h2 c))
   ·exact mem_symsA h2 c
theorem sym_in {P:List PRD} {i:Nat} {p:PRD} {l:List SY} {s:SY} (hp:P[i]? =some p) (hl:l∈p.1) (hs:s∈l) (h2:s.1=2):s.2.2∈symsN P i:=by
 unfold symsN
 rw[hp]
 exact List.mem_flatMap.2 ⟨l,hl,mem_symsA h2 hs⟩
theorem symsN_of {P:List PRD} {i:Nat} {p:PRD} (hp:P[i]? =some p):symsN P i=symsP p:=by unfold symsN;rw[hp]
theorem refFrom_l (v:Value) (g:GR) (n:Int) (w:World) (h:GrM w v g):Calls Tryz.prog 28 #[v,.int .i64 n] w fun e w'=>FromR w g n e w':=by
 have CM:=zk (fun W (bW:Below w.heap.size w W)=>may8_l v g W (h.later bW))
 obtain⟨a,c,aK,cK,rfl,hp,-⟩:=id h
 cases hg:gramB g.1 with
 |false=>
  rw[hg]at CM
  have HF:Hid (∀W,Below w.heap.size w W→FromR w g n (.returned (.slice none 0 0)) W):=fun W b=>FromR.none (fun c=>by rw[hg]at c;cases c.1) b
  clear h hp
  generalize g.1.length=nP at*
  generalize g.2.length=nK at*
  clear hg
  go_enter Tryz.func28,Tryz.ntmps28
  go_wp2_with fail
  refine(zq CM _ (Below.new1 _)).mono ?_
  rintro e w1 ⟨rfl,b1⟩
  clear CM
  go_wp2_with fail
  go_ret
  exact zq HF _ (Xj (Below.new1 _) b1)
 |true=>
  rw[hg]at CM
  have h60:=(Xv hg).2.1
  by_cases h0:n<0
  ·have bn:decide (n<0)=true:=decide_eq_true h0
   have HF:Hid (∀W,Below w.heap.size w W→FromR w g n (.returned (.slice none 0 0)) W):=fun W b=>FromR.none (fun c=>by omega) b
   clear h hp h0
   generalize g.1.length=nP at*
   generalize g.2.length=nK at*
   clear hg
   go_enter Tryz.func28,Tryz.ntmps28
   go_wp2_with fail
   refine(zq CM _ (Below.new1 _)).mono ?_
   rintro e w1 ⟨rfl,b1⟩
   clear CM
   go_wp2_with fail
   go_ret
   exact zq HF _ (Xj (Below.new1 _) b1)
  ·have bn:decide (n<0)=false:=decide_eq_false h0
   by_cases h1:(g.1.length:Int)≤n
   ·have bm:decide ((g.1.length:Int)≤n)=true:=decide_eq_true h1
    have HF:Hid (∀W,Below w.heap.size w W→FromR w g n (.returned (.slice none 0 0)) W):=fun W b=>FromR.none (fun c=>by omega) b
    clear h hp h0 h1
    generalize g.1.length=nP at*
    generalize g.2.length=nK at*
    clear hg
    go_enter Tryz.func28,Tryz.ntmps28
    go_wp2_with fail
    have G0:=heap_alloc_new w (.cells #[.slice a nP c,.slice aK nK cK] 25)
    refine(zq CM _ (Below.new1 _)).mono ?_
    rintro e w1 ⟨rfl,b1⟩
    have G1:=(b1.block _ (Array.getElem?_eq_some_iff.1 G0).1).trans G0
    obtain⟨y0,y1⟩:=XX G1
    have B1:=zk (Xj (Below.new1 _) b1)
    clear CM G0 G1 b1
    go_wp2_with fail
    go_ret
    exact zq HF _ (zq B1)
   ·obtain⟨i,rfl⟩:=Int.eq_ofNat_of_zero_le (show 0≤n by omega)
    have hin:i<g.1.length:=by omega
    have bm:decide ((g.1.length:Int)≤(i:Int))=false:=decide_eq_false h1
    have bm2:decide (g.1.length≤i)=false:=decide_eq_false (by omega)
    have HF:Hid (∀v S W,Below w.heap.size w W→BIR W w.heap.size v S→S.length=g.1.length→(∀m:Nat,S.getD m false=true↔Wi g.1 i (m:Int))→FromR w g (i:Int) (.returned v) W):=
     fun v S W b h2 h3 h4=>⟨v,S,rfl,h2,.inl ⟨hg,by omega,by omega,h3,h4⟩,b⟩
    obtain⟨P,K⟩:=g
    simp only at*
    generalize K.length=nK at*
    have HG:=zk hg
    obtain⟨hP1,-,h8,h40,hok,-⟩:=Xv hg
    obtain⟨a0,c0,e0,hc1,hc2,h3⟩:=id hp
    injection e0 with e1 e2 e3
    subst e1;subst e3
    unfold maxLen at hc2
    have H3:=zk h3
    have H8:=zk h8
    have H40:=zk h40
    clear h hp h0 h1 hg h8 h40 hok h3 e2
    go_enter Tryz.func28,Tryz.ntmps28
    go_wp2_with fail
    refine(zq CM _ (Below.new1 _)).mono ?_
    rintro e w1 ⟨rfl,b1⟩
    clear CM
    have hk1:=nkept b1
    obtain⟨y0,y1⟩:=XX hk1
    have B1:=zk (Xj (Below.new1 _) b1)
    have gml:w.heap.size<w1.heap.size:=zJ y0
    obtain⟨w3,hr,hB3,gr⟩:=mk_bool w.heap.size P.length w1 (by omega) (by omega)
    have b3:=grB gr
    have B3:=zk (Xj (zq B1) b3)
    have HK:=zk ((b3.block _ (Array.getElem?_eq_some_iff.1 hk1).1).trans hk1)
    have HO:=zk hB3
    have RF:=zk (Rd2.zero P.length (DFrom P i) (fun m=>Wi P i (m:Int)))
    clear b1 gr b3 hB3 hk1 B1
    go_wp2_with fail
    clear hr y0 y1
    generalize hgm2:w1.heap.size=gm at*
    clear hgm2
    obtain⟨y0,y1⟩:=XX (zq HK)
    go_loopw [7] (fun z wr=>∃(k:Nat) (L:List Bool),k≤P.length∧z= .int .i64 (k:Int)∧Hid (Rd2 P.length (DFrom P i) (fun m=>Wi P i (m:Int)) k L)∧Hid (BR wr w.heap.size gm P.length P.length L)∧Hid (Below w.heap.size w wr)∧Hid (wr.heap[w.heap.size]? =some (.cells #[.slice a P.length c,.slice aK nK cK] 25))) (fun z _=>P.length-(intOf z).toNat)
    case atStart=>exact⟨0,_,Nat.zero_le _,rfl,RF,HO,B3,HK⟩
    case round=>
     clear HO B3 HK RF y0 y1
     obtain⟨k,L0,hk,rfl,hR0,hO0,hB0,hK0⟩:=hrel
     obtain⟨y0,y1⟩:=XX (zq hK0)
     by_cases hlt:k<P.length
     ·go_wp2_with fail
      go_loopw [8] (fun z wr=>∃(q:Nat) (L:List Bool),q≤P.length∧z= .int .i64 (q:Int)∧Hid (RfI P i k q [] L)∧Hid (BR wr w.heap.size gm P.length P.length L)∧Hid (Below w.heap.size w wr)∧Hid (wr.heap[w.heap.size]? =some (.cells #[.slice a P.length c,.slice aK nK cK] 25))) (fun z _=>P.length-(intOf z).toNat)
      case atStart=>exact⟨0,L0,Nat.zero_le _,rfl,RfI.first (zq hR0),hO0,hB0,hK0⟩
      case round=>
       clear hR0 hO0 hB0 hK0 y0 y1
       obtain⟨q,L1,hq,rfl,hR1,hO1,hB1,hK1⟩:=hrel
       obtain⟨y0,y1⟩:=XX (zq hK1)
       by_cases hlt1:q<P.length
       ·obtain⟨p,hnp⟩:∃p,P[q]? =some p:=⟨P[q],by simp[hlt1]⟩
        obtain⟨gp,off,u,u2,rfl,hgp,q0,-,-,hA,-⟩:=zq H3 q p hnp
        obtain⟨aA,cA,rfl,hA1,hA2⟩:=hA.form
        unfold maxLen at hA2
        have hp8:=zq H8 p (List.mem_of_getElem? hnp)
        have HNP:=zk hnp
        have HAl:=zk hA
        have n3:q*3=3*q:=by omega
        clear hnp hA
        have r0:=((zq hB1).cell (p:=⟨gp,off+3*q,none⟩) hgp).trans q0
        go_wp2_with fail
        go_loopw [9] (fun z wr=>∃(j:Nat) (L:List Bool),j≤p.1.length∧z= .int .i64 (j:Int)∧Hid (RfI P i k q ((p.1.take j).flatMap symsA) L)∧Hid (BR wr w.heap.size gm P.length P.length L)∧Hid (Below w.heap.size w wr)∧Hid (wr.heap[w.heap.size]? =some (.cells #[.slice (some ⟨gp,off,none⟩) P.length c,.slice aK nK cK] 25))) (fun z _=>p.1.length-(intOf z).toNat)
        case atStart=>exact⟨0,L1,Nat.zero_le _,rfl,hR1,hO1,hB1,hK1⟩
        case round=>
         clear hR1 hO1 hB1 hK1 y0 y1 r0
         obtain⟨j,L,hj,rfl,hR2,hO2,hB2,hK2⟩:=hrel
         obtain⟨y0,y1⟩:=XX (zq hK2)
         have r0:=((zq hB2).cell (p:=⟨gp,off+3*q,none⟩) hgp).trans q0
         have tq:=(zq hO2).at hlt1
         by_cases hlt2:j<p.1.length
         ·by_cases hgo:q=i∨bt L q=true
          ·have HGO:=zk hgo
           obtain⟨l,hjl⟩:∃l,p.1[j]? =some l:=⟨p.1[j],by simp[hlt2]⟩
           obtain⟨gA,oA,aS,cS,rfl,hgA,s0,hSy,hS1,hS2⟩:=alt_at (zq HAl) hjl
           unfold maxLen at hS2
           have HJL:=zk hjl
           have HSY:=zk hSy
           have hl40:=zq H40 p (List.mem_of_getElem? (zq HNP)) l (List.mem_of_getElem? hjl)
           have s1:=((zq hB2).cell (p:=⟨gA,oA+j,none⟩) hgA).trans s0
           have bq:(q:Int)<(P.length:Int):=by omega
           have bj:(j:Int)<(p.1.length:Int):=by omega
           have R40:Hid (RfI P i k q ((p.1.take j).flatMap symsA++symsA (l.take 0)) L):=by
            show RfI _ _ _ _ (_++[]) _
            rw[List.append_nil];exact zq hR2
           by_cases hqi:q=i
           have eqb:((q:Int)==(i:Int))=true:=beq_iff_eq.2 (by omega)
           have eqn:(q==i)=true:=beq_iff_eq.2 hqi
           rotate_left
           have eqb:((q:Int)==(i:Int))=false:=beq_eq_false_iff_ne.2 (by omega)
           have eqn:(q==i)=false:=beq_eq_false_iff_ne.2 hqi
           rw[show L.getD q false=true from hgo.resolve_left hqi]at tq
           all_goals (
            clear hjl hSy hgo hR2 hqi
            go_wp2_with fail
            clear tq eqb eqn
            go_loopw [10] (fun z wr=>∃(m:Nat) (L:List Bool),m≤l.length∧z= .int .i64 (m:Int)∧Hid (q=i∨bt L q=true)∧Hid (RfI P i k q ((p.1.take j).flatMap symsA++symsA (l.take m)) L)∧Hid (BR wr w.heap.size gm P.length P.length L)∧Hid (Below w.heap.size w wr)∧Hid (wr.heap[w.heap.size]? =some (.cells #[.slice (some ⟨gp,off,none⟩) P.length c,.slice aK nK cK] 25))) (fun z _=>l.length-(intOf z).toNat)
            case atStart=>exact⟨0,L,Nat.zero_le _,rfl,HGO,R40,hO2,hB2,hK2⟩
            case round=>
             clear HGO R40 hO2 hB2 hK2 y0 y1 r0 s1
             obtain⟨m,L',hm,rfl,hG3,hR3,hO3,hB3,hK3⟩:=hrel
             obtain⟨y0,y1⟩:=XX (zq hK3)
             have r0:=((zq hB3).cell (p:=⟨gp,off+3*q,none⟩) hgp).trans q0
             have s1:=((zq hB3).cell (p:=⟨gA,oA+j,none⟩) hgA).trans s0
             by_cases hlt3:m<l.length
             ·obtain⟨s,hms⟩:∃s,l[m]? =some s:=⟨l[m],by simp[hlt3]⟩
              obtain⟨gS,oS,rfl,hgS,t0,t2⟩:=sy_at (zq HSY) hms
              have u0:=((zq hB3).cell (p:=⟨gS,oS+3*m,none⟩) hgS).trans t0
              have u2:=((zq hB3).cell (p:=⟨gS,oS+3*m+2,none⟩) hgS).trans t2
              have bm3:(m:Int)<(l.length:Int):=by omega
              have m3:m*3=3*m:=by omega
              by_cases h2:s.1=2
              ·obtain⟨x,ex,hx⟩:=rng_all (zq HG) q s.2.2 (sym_in (zq HNP) (List.mem_of_getElem? (zq HJL)) (List.mem_of_getElem? hms) h2)
               have NX:Hid (RfI P i k q ((p.1.take j).flatMap symsA++symsA (l.take (m+1))) (L'.set x true)):=by
                have:=(zq hR3).mark (zq hG3) (by rw[←ex];exact sym_in (zq HNP) (List.mem_of_getElem? (zq HJL)) (List.mem_of_getElem? hms) h2) hx
                rw[List.append_assoc,←ex,←symsA_yes hms h2]at this
                exact this
               have NG:Hid (q=i∨bt (L'.set x true) q=true):=(zq hG3).elim .inl (fun c=> .inr (by rw[Xo (by rw[(zq hR3).len];exact hx)];split<;>first|rfl|exact c))
               have tc:=(zq hO3).at hx
               have tz:=(zq hO3).fz x
               have O4:=zk ((zq hO3).set x true)
               have B4:=zk ((zq hB3).setCell (p:=⟨gm,x,none⟩) (by show w.heap.size≤gm;omega) (.bool true))
               have K4:=zk ((heap_setCell_other _ ⟨gm,x,none⟩ _ (.bool true) (show w.heap.size≠gm by omega)).trans (zq hK3))
               rw[ex]at u2
               rw[h2]at u0
               clear hms t0 t2 h2 ex hR3 hG3 hO3 hB3 hK3
               go_wp2_with fail
               exact⟨⟨m+1,_,by omega,by simp,NG,NX,O4,B4,K4⟩,by simp[intOf];omega⟩
              ·have NX:Hid (RfI P i k q ((p.1.take j).flatMap symsA++symsA (l.take (m+1))) L'):=by
                show RfI _ _ _ _ _ _
                rw[symsA_no hms h2];exact zq hR3
               have k2:(s.1==2)=false:=beq_eq_false_iff_ne.2 h2
               clear hms t0 t2 h2 u2 hR3
               generalize s.1=s1' at*
               go_wp2_with fail
               exact⟨⟨m+1,_,by omega,by simp,hG3,NX,hO3,hB3,hK3⟩,by simp[intOf];omega⟩
             ·obtain rfl:m=l.length:=by omega
              have NX:Hid (RfI P i k q ((p.1.take (j+1)).flatMap symsA) L'):=by
               show RfI _ _ _ _ _ _
               rw[flat_step (zq HJL)]
               have:=zq hR3
               rwa [List.take_length]at this
              clear hR3
              go_wp2_with fail
              exact⟨⟨j+1,_,by omega,by simp,NX,hO3,hB3,hK3⟩,by simp[intOf];omega⟩)
          ·have NX:=zk ((zq hR2).next (fun c=>absurd c hgo))
           have eqb:((q:Int)==(i:Int))=false:=beq_eq_false_iff_ne.2 (fun c=>hgo (.inl (by omega)))
           have eqn:(q==i)=false:=beq_eq_false_iff_ne.2 (fun c=>hgo (.inl c))
           have hb:L.getD q false=false:=by
            cases e:L.getD q false with
            |false=>rfl
            |true=>exact absurd (.inr e) hgo
           rw[hb]at tq
           clear hR2 hgo hb
           go_wp2_with fail
           exact⟨⟨q+1,L,by omega,by simp,NX,hO2,hB2,hK2⟩,by simp[intOf];omega⟩
         ·obtain rfl:j=p.1.length:=by omega
          have NX:=zk ((zq hR2).next (fun _=>by rw[List.take_length,symsN_of (zq HNP)];rfl))
          clear hR2 tq
          go_wp2_with fail
          exact⟨⟨q+1,L,by omega,by simp,NX,hO2,hB2,hK2⟩,by simp[intOf];omega⟩
       ·obtain rfl:q=P.length:=by omega
        have NX:=zk ((zq hR1).round hin (rng_all (zq HG)))
        clear hR1
        go_wp2_with fail
        exact⟨⟨k+1,L1,by omega,by simp,NX,hO1,hB1,hK1⟩,by simp[intOf];omega⟩
     ·obtain rfl:k=P.length:=by omega
      have FIN:Hid (∀m:Nat,L0.getD m false=true↔Wi P i (m:Int)):=fun m=>by
       rcases Nat.lt_or_ge m P.length with hm|hm
       ·exact(zq hR0).done (fun S hl hc q hq hw=>least_from hin (rng_all (zq HG)) S hl hc q hq hw) hm
       ·constructor
        ·intro e
         have:=bt_in (S:=L0) (m:=m) e
         have:=(zq hR0).len
         omega
        ·intro hw
         obtain⟨j,hj⟩:=hw.last
         obtain⟨q,e,hq⟩:=rng_all (zq HG) j _ hj
         omega
      have HL:=zk (zq hR0).len
      clear hR0
      go_wp2_with fail
      go_ret
      exact zq HF _ L0 _ (zq hB0) (by show World.ownsRow _ _ _ _ _ _ _;rw[zq HL];exact zq hO0) (zq HL) (zq FIN)
theorem cnt_pos {p:Int→Bool}:∀(N:Nat),0≤G.cnt p N∧(0<G.cnt p N↔∃n:Nat,n<N∧p (n:Int)=true):=by
 intro N
 induction N with
 |zero=>exact⟨Int.le_refl 0,fun h=>absurd h (by show¬(0:Int)<0;omega),fun⟨n,h,_⟩=>absurd h (Nat.not_lt_zero _)⟩
 |succ k ih=>
  unfold G.cnt
  cases e:p (k:Int)with
  |true=>
   simp only[if_true]
   exact⟨by have:=ih.1;omega,fun _=>⟨k,by omega,e⟩,fun _=>by have:=ih.1;omega⟩
  |false=>
   have z:(if false=true then (1:Int)else 0)=0:=rfl
   rw[z,Int.add_zero]
   refine⟨ih.1,fun h=> ?_,fun⟨n,hn,hp⟩=> ?_⟩
   ·obtain⟨n,hn,hp⟩:=ih.2.1 h
    exact⟨n,by omega,hp⟩
   ·refine ih.2.2 ⟨n,?_,hp⟩
    rcases Nat.lt_succ_iff_lt_or_eq.1 hn with c|c
    ·exact c
    ·subst c;rw[e]at hp;cases hp
theorem hs_iff {A:List (Int×Int)} (h:G.zo A=true):hsB A=true↔∃n:Nat,n<1114112∧G.hasB A (n:Int)=true∧((n:Int)<55296∨57343<(n:Int)):=by
 unfold hsB
 rw[Bool.and_eq_true,decide_eq_true_eq,Bool.or_eq_true,U.qQ,U.qQ]
 have mem:∀r∈A,∀n:Int,r.1≤n→n≤r.2→G.hasB A n=true:=fun r hr n h1 h2=>by
  unfold G.hasB
  exact List.any_eq_true.2 ⟨r,hr,by simp[h1,h2]⟩
 constructor
 ·rintro⟨hl,hs⟩
  have f0:A.getD 0 (0,0)∈A:=by rw[List.getD_eq_getElem?_getD,List.getElem?_eq_getElem hl];exact List.getElem_mem _
  have f1:A.getD (A.length-1) (0,0)∈A:=by rw[List.getD_eq_getElem?_getD,List.getElem?_eq_getElem (by omega)];exact List.getElem_mem _
  rcases hs with ⟨h1,h2,h3⟩|⟨h1,h2,h3⟩
  ·refine⟨(A.getD 0 (0,0)).1.toNat,by omega,?_,by omega⟩
   rw[Int.toNat_of_nonneg h1]
   exact mem _ f0 _ (Int.le_refl _) (G.may_mem h f0).2.1
  ·refine⟨(A.getD (A.length-1) (0,0)).2.toNat,by omega,?_,by omega⟩
   rw[Int.toNat_of_nonneg h1]
   exact mem _ f1 _ (G.may_mem h f1).2.1 (Int.le_refl _)
 ·rintro⟨n,hn,ha,hg⟩
  have hl:0<A.length:=by
   rcases Nat.eq_zero_or_pos A.length with c|c
   ·rw[List.eq_nil_of_length_eq_zero c]at ha;cases ha
   ·exact c
  refine⟨hl,?_⟩
  obtain⟨r,hr,hrn⟩:=List.any_eq_true.1 ha
  rw[Bool.and_eq_true,decide_eq_true_eq,decide_eq_true_eq]at hrn
  have lo:∀(l:List (Int×Int)) (least:Int),G.yZ least l=true→∀r∈l,(l.getD 0 (0,0)).1≤r.1:=by
   intro l least hm r hr
   cases l with
   |nil=>cases hr
   |cons x t=>
    rw[G.mayFrom_cons]at hm
    rcases List.mem_cons.1 hr with c|c
    ·subst c;exact Int.le_refl _
    ·have:=(G.may_mem hm.2.2.2 c).1
     show x.1≤r.1
     omega
  have hi:∀(l:List (Int×Int)) (least:Int),G.yZ least l=true→∀r∈l,r.2≤(l.getD (l.length-1) (0,0)).2:=by
   intro l
   induction l with
   |nil=>intro _ _ r hr;cases hr
   |cons x t ih=>
    intro least hm r hr
    rw[G.mayFrom_cons]at hm
    cases t with
    |nil=>rw[List.mem_singleton.1 hr];exact Int.le_refl _
    |cons y t=>
     have e:(x::y::t).getD ((x::y::t).length-1) (0,0)=(y::t).getD ((y::t).length-1) (0,0):=by simp
     rw[e]
     rcases List.mem_cons.1 hr with c|c
     ·subst c
      have h2:=ih _ hm.2.2.2 y (List.mem_cons_self ..)
      have h3:=G.may_mem hm.2.2.2 (List.mem_cons_self (a:=y) (l:=t))
      omega
     ·exact ih _ hm.2.2.2 r c
  have a1:=lo A 0 h r hr
  have a2:=hi A 0 h r hr
  have f0:A.getD 0 (0,0)∈A:=by rw[List.getD_eq_getElem?_getD,List.getElem?_eq_getElem hl];exact List.getElem_mem _
  have f1:A.getD (A.length-1) (0,0)∈A:=by rw[List.getD_eq_getElem?_getD,List.getElem?_eq_getElem (by omega)];exact List.getElem_mem _
  have b0:=G.may_mem h f0
  have b1:=G.may_mem h f1
  rcases hg with c|c
  ·exact .inl ⟨by omega,by omega,by omega⟩
  ·exact .inr ⟨by omega,by omega,by omega⟩
theorem size_hs {A out:List (Int×Int)} (h:G.zo A=true) (ho:G.Is out fun n=>nrm A n&& !nrm [(55296,57343)] n):decide (0<G.size (nrm out))=hsB A:=by
 have e:(0<G.size (nrm out))↔hsB A=true:=by
  unfold G.size
  rw[(cnt_pos 1114112).2,hs_iff h]
  constructor
  ·rintro⟨n,hn,hp⟩
   unfold nrm at hp
   rw[Bool.and_eq_true,ho.2,Bool.and_eq_true]at hp
   obtain⟨h1,h2,h3⟩:=hp
   unfold nrm at h2 h3
   rw[Bool.and_eq_true]at h2
   refine⟨n,hn,h2.2,?_⟩
   rw[G.jY,h1]at h3
   simp at h3
   omega
  ·rintro⟨n,hn,h1,h2⟩
   have hd:G.dom (n:Int)=true:=by unfold G.dom;rw[Bool.and_eq_true,decide_eq_true_eq,decide_eq_true_eq];omega
   refine⟨n,hn,?_⟩
   unfold nrm
   rw[hd,ho.2,Bool.true_and]
   show(G.dom (n:Int)&&G.hasB A (n:Int)&& !(G.dom (n:Int)&&G.hasB [(55296,57343)] (n:Int)))=true
   rw[hd,h1,G.jY]
   simp
   omega
 cases e2:hsB A with
 |true=>exact decide_eq_true (e.2 e2)
 |false=>exact decide_eq_false (fun c=>by rw[e.1 c]at e2;cases e2)
def syK (N:Nat) (s:SY):Prop:=s.1=0∨(s.1=1∧G.zo s.2.1=true)∨(s.1=2∧0≤s.2.2∧s.2.2<(N:Int))
theorem syK_of {P:List PRD} (hg:gramB P=true) {p:PRD} (hp:p∈P) {a:List SY} (ha:a∈p.1) {s:SY} (hs:s∈a):syK P.length s:=by
 rcases okS hg hp ha hs with h|h|h
 ·exact .inl h
 ·refine .inr (.inl ⟨h,?_⟩)
  have key:symB s P.length=true:=by
   unfold gramB at hg
   simp only[Bool.and_eq_true,decide_eq_true_eq,List.all_eq_true]at hg
   have:=hg.2.2 p hp
   unfold prodB fitsB at this
   simp only[Bool.and_eq_true,decide_eq_true_eq,List.all_eq_true,Bool.not_eq_true',List.any_eq_false,longB]at this
   obtain⟨⟨-,h8,h40⟩,-,-,-,hs'⟩:=this
   exact hs' a ha s hs
  unfold symB at key
  rw[if_neg (by omega),if_pos h]at key
  exact(Bool.and_eq_true_iff.1 key).2
 ·exact .inr (.inr h)
theorem refSome_l (base gs N c:Nat) (x:Option Addr) (S:List Bool) (s:SY) (w:World) (hS:BR w base gs N N S) (h:Rs w x s.2.1.length c s.2.1) (hk:syK N s) (hN:N≤1000000):
  Calls Tryz.prog 58 #[.slice (some ⟨gs,0,none⟩) N N,.agg #[.int .i64 s.1,.slice x s.2.1.length c,.int .i64 s.2.2]] w fun e w'=>e= .returned (.bool (syB S s))∧Below w.heap.size w w':=by
 obtain⟨k,R,n⟩:=s
 simp only at h hk⊢
 unfold syB
 simp only
 rcases hk with h0|⟨h1,hm⟩|⟨h2,h3,h4⟩
 ·simp only at h0
  subst h0
  generalize R.length=nr at*
  clear h hS
  go_enter Tryz.func58,Tryz.ntmps58
  go_wp2_with fail
  go_ret
  exact⟨by simp,Below.new1 _⟩
 ·simp only at h1 hm
  subst h1
  have HR:=zk h
  have HM:=zk hm
  clear h hm hS
  have e1:(if (1:Int)=0 then decide (0<R.length)else if (1:Int)=1 then hsB R else bt S n.toNat)=hsB R:=rfl
  rw[e1]
  clear e1
  generalize hnr:R.length=nr at*
  go_enter Tryz.func58,Tryz.ntmps58
  go_wp2_with fail
  have bn:Below w.heap.size w ((w.alloc (.cells #[.int .i64 1,.slice x nr c,.int .i64 n] 43)).alloc (.cells #[.int .i64 55296,.int .i64 57343] 51)):=Xj (Below.new1 _) (Below.new1 _)
  have hR2:=(zq HR).later bn (Nat.le_refl _)
  have hB2:=Rs.single (w.alloc (.cells #[.int .i64 1,.slice x nr c,.int .i64 n] 43)) 55296 57343 (by unfold yQ;omega) (by unfold yQ;omega) (w.heap.size+1) (by simp)
  have HBN:=zk bn
  refine(refLess_any x nr c R (some ⟨w.heap.size+1,0,none⟩) 1 1 [(55296,57343)] _ hR2 hB2).mono ?_
  rintro e w1 ⟨a2,l2,c2,out,rfl,ho,hI,b1⟩
  have HI:=zk (size_hs (zq HM) hI)
  have HO:=zk ho
  have B1:=zk (Xj (zq HBN) b1)
  clear bn hR2 hB2 HBN ho hI b1 HR HM
  go_wp2_with fail
  refine(refSize_any a2 l2 c2 out w1 (zq HO)).mono ?_
  rintro e w2 ⟨rfl,b2⟩
  have B2:=zk (Xj (zq B1) b2)
  generalize G.size (nrm out)=z at*
  clear HO B1 b2
  go_wp2_with fail
  go_ret
  exact⟨by show Ending.returned (.bool (decide (0<z)))=_;rw[zq HI],zq B2⟩
 ·simp only at h2 h3 h4
  subst h2
  obtain⟨i,rfl⟩:=Int.eq_ofNat_of_zero_le h3
  have hi:i<N:=by omega
  have tq:=((Below.new1 (w:=w) (.cells #[.int .i64 2,.slice x R.length c,.int .i64 (i:Int)] 43)).cell (p:=⟨gs,i,none⟩) (XZ hS (rfl:(Value.slice (some ⟨gs,0,none⟩) N N).ownBlock=some gs)).2).trans (hS.at hi)
  have bi:(i:Int)<(N:Int):=by omega
  have e1:(if (2:Int)=0 then decide (0<R.length)else if (2:Int)=1 then hsB R else bt S (i:Int).toNat)=S.getD i false:=rfl
  rw[e1]
  generalize S.getD i false=b at*
  generalize R.length=nr at*
  clear h hS e1
  go_enter Tryz.func58,Tryz.ntmps58
  go_wp2_with fail
  go_ret
  exact⟨rfl,Below.new1 _⟩
theorem syF_at {w:World} {a:Option Addr} {n c:Nat} {l:List SY} (h:SyM w (.slice a n c) l) {k:Nat} {s:SY} (hk:l[k]? =some s):∃g off x kk,a=some ⟨g,off,none⟩∧g<w.heap.size∧w.cell? ⟨g,off+3*k,none⟩=some (.int .i64 s.1)∧w.cell? ⟨g,off+3*k+1,none⟩=some (.slice x s.2.1.length kk)∧w.cell? ⟨g,off+3*k+2,none⟩=some (.int .i64 s.2.2)∧Rs w x s.2.1.length kk s.2.1:=by
 obtain⟨a',c',e,-,-,h3⟩:=h
 injection e with e1 e2 e3
 subst e1
 exact h3 k s hk
theorem alB_step {S:List Bool} {l:List SY} {m:Nat} {s:SY} (h:l[m]? =some s):alB S (l.take (m+1))=(alB S (l.take m)&&syB S s):=by
 obtain⟨hm,rfl⟩:=List.getElem?_eq_some_iff.1 h
 unfold alB
 rw[List.take_succ_eq_append_getElem hm,List.all_append]
 simp
theorem alB_iff {S:List Bool} {l:List SY}:alB S l=true↔alT (kn S) l:=by
 unfold alB alT
 rw[List.all_eq_true]
 exact⟨fun h s hs=>syB_iff.1 (h s hs),fun h s hs=>syB_iff.2 (h s hs)⟩
theorem refMakes_l (v:Value) (g:GR) (w:World) (h:GrM w v g):Calls Tryz.prog 30 #[v] w fun e w'=>MakesR w g e w':=by
 have CM:=zk (fun W (bW:Below w.heap.size w W)=>may8_l v g W (h.later bW))
 obtain⟨a,c,aK,cK,rfl,hp,-⟩:=id h
 cases hg:gramB g.1 with
 |false=>
  rw[hg]at CM
  have HF:Hid (∀W,Below w.heap.size w W→MakesR w g (.returned (.slice none 0 0)) W):=fun W b=>⟨_,[],rfl,BIR.nil _ _,.inr ⟨hg,rfl⟩,b⟩
  clear h hp
  generalize g.1.length=nP at*
  generalize g.2.length=nK at*
  clear hg
  go_enter Tryz.func30,Tryz.ntmps30
  go_wp2_with fail
  refine(zq CM _ (Below.new1 _)).mono ?_
  rintro e w1 ⟨rfl,b1⟩
  clear CM
  go_wp2_with fail
  go_ret
  exact zq HF _ (Xj (Below.new1 _) b1)
 |true=>
  rw[hg]at CM
  have HF:Hid (∀v S W,Below w.heap.size w W→BIR W w.heap.size v S→S.length=g.1.length→(∀m:Nat,S.getD m false=true↔Tx g.1 (m:Int))→MakesR w g (.returned v) W):=
   fun v S W b h2 h3 h4=>⟨v,S,rfl,h2,.inl ⟨hg,h3,h4⟩,b⟩
  obtain⟨P,K⟩:=g
  simp only at*
  generalize K.length=nK at*
  have HG:=zk hg
  obtain⟨hP1,h60,h8,h40,hok,-⟩:=Xv hg
  obtain⟨a0,c0,e0,hc1,hc2,h3⟩:=id hp
  injection e0 with e1 e2 e3
  subst e1;subst e3
  unfold maxLen at hc2
  have H3:=zk h3
  have H8:=zk h8
  have H40:=zk h40
  clear h hp hg h8 h40 hok h3 e2
  go_enter Tryz.func30,Tryz.ntmps30
  go_wp2_with fail
  refine(zq CM _ (Below.new1 _)).mono ?_
  rintro e w1 ⟨rfl,b1⟩
  clear CM
  have hk1:=nkept b1
  obtain⟨y0,y1⟩:=XX hk1
  have B1:=zk (Xj (Below.new1 _) b1)
  have gml:w.heap.size<w1.heap.size:=zJ y0
  obtain⟨w3,hr,hB3,gr⟩:=mk_bool w.heap.size P.length w1 (by omega) (by omega)
  have b3:=grB gr
  have B3:=zk (Xj (zq B1) b3)
  have HK:=zk ((b3.block _ (Array.getElem?_eq_some_iff.1 hk1).1).trans hk1)
  have HO:=zk hB3
  have RF:=zk (Rd2.zero P.length (fun S q=>prT P (kn S) q) (fun m=>Tx P (m:Int)))
  clear b1 gr b3 hB3 hk1 B1
  go_wp2_with fail
  clear hr y0 y1
  generalize hgm2:w1.heap.size=gm at*
  clear hgm2
  obtain⟨y0,y1⟩:=XX (zq HK)
  go_loopw [5] (fun z wr=>∃(k:Nat) (L:List Bool),k≤P.length∧z= .int .i64 (k:Int)∧Hid (Rd2 P.length (fun S q=>prT P (kn S) q) (fun m=>Tx P (m:Int)) k L)∧Hid (BR wr w.heap.size gm P.length P.length L)∧Hid (Below w.heap.size w wr)∧Hid (wr.heap[w.heap.size]? =some (.cells #[.slice a P.length c,.slice aK nK cK] 25))) (fun z _=>P.length-(intOf z).toNat)
  case atStart=>exact⟨0,_,Nat.zero_le _,rfl,RF,HO,B3,HK⟩
  case round=>
   clear HO B3 HK RF y0 y1
   obtain⟨k,L0,hk,rfl,hR0,hO0,hB0,hK0⟩:=hrel
   obtain⟨y0,y1⟩:=XX (zq hK0)
   by_cases hlt:k<P.length
   ·go_wp2_with fail
    go_loopw [6] (fun z wr=>∃(q:Nat) (L:List Bool),q≤P.length∧z= .int .i64 (q:Int)∧Hid (RmI P k q 0 L)∧Hid (BR wr w.heap.size gm P.length P.length L)∧Hid (Below w.heap.size w wr)∧Hid (wr.heap[w.heap.size]? =some (.cells #[.slice a P.length c,.slice aK nK cK] 25))) (fun z _=>P.length-(intOf z).toNat)
    case atStart=>exact⟨0,L0,Nat.zero_le _,rfl,RmI.first (zq hR0),hO0,hB0,hK0⟩
    case round=>
     clear hR0 hO0 hB0 hK0 y0 y1
     obtain⟨q,L1,hq,rfl,hR1,hO1,hB1,hK1⟩:=hrel
     obtain⟨y0,y1⟩:=XX (zq hK1)
     by_cases hlt1:q<P.length
     ·obtain⟨p,hnp⟩:∃p,P[q]? =some p:=⟨P[q],by simp[hlt1]⟩
      obtain⟨gp,off,u,u2,rfl,hgp,q0,-,-,hA,-⟩:=zq H3 q p hnp
      obtain⟨aA,cA,rfl,hA1,hA2⟩:=hA.form
      unfold maxLen at hA2
      have hp8:=zq H8 p (List.mem_of_getElem? hnp)
      have HNP:=zk hnp
      have HAl:=zk hA
      have n3:q*3=3*q:=by omega
      have bq:(q:Int)<(P.length:Int):=by omega
      clear hnp hA
      have r0:=((zq hB1).cell (p:=⟨gp,off+3*q,none⟩) hgp).trans q0
      go_wp2_with fail
      go_loopw [7] (fun z wr=>∃(j:Nat) (L:List Bool),j≤p.1.length∧z= .int .i64 (j:Int)∧Hid (RmI P k q j L)∧Hid (BR wr w.heap.size gm P.length P.length L)∧Hid (Below w.heap.size w wr)∧Hid (wr.heap[w.heap.size]? =some (.cells #[.slice (some ⟨gp,off,none⟩) P.length c,.slice aK nK cK] 25))) (fun z _=>p.1.length-(intOf z).toNat)
      case atStart=>exact⟨0,L1,Nat.zero_le _,rfl,hR1,hO1,hB1,hK1⟩
      case round=>
       clear hR1 hO1 hB1 hK1 y0 y1 r0
       obtain⟨j,L,hj,rfl,hR2,hO2,hB2,hK2⟩:=hrel
       obtain⟨y0,y1⟩:=XX (zq hK2)
       have r0:=((zq hB2).cell (p:=⟨gp,off+3*q,none⟩) hgp).trans q0
       by_cases hlt2:j<p.1.length
       ·obtain⟨l,hjl⟩:∃l,p.1[j]? =some l:=⟨p.1[j],by simp[hlt2]⟩
        obtain⟨gA,oA,aS,cS,rfl,hgA,s0,hSy,hS1,hS2⟩:=alt_at (zq HAl) hjl
        unfold maxLen at hS2
        have HJL:=zk hjl
        have HSY:=zk hSy
        have hl40:=zq H40 p (List.mem_of_getElem? (zq HNP)) l (List.mem_of_getElem? hjl)
        have s1:=((zq hB2).cell (p:=⟨gA,oA+j,none⟩) hgA).trans s0
        have bj:(j:Int)<(p.1.length:Int):=by omega
        clear hjl hSy
        go_wp2_with fail
        go_loopw [8,9] (fun al z wr=>∃(m:Nat),m≤l.length∧z= .int .i64 (m:Int)∧al= .bool (alB L (l.take m))∧Hid (BR wr w.heap.size gm P.length P.length L)∧Hid (Below w.heap.size w wr)∧Hid (wr.heap[w.heap.size]? =some (.cells #[.slice (some ⟨gp,off,none⟩) P.length c,.slice aK nK cK] 25))) (fun _ z _=>l.length-(intOf z).toNat)
        case atStart=>exact⟨0,Nat.zero_le _,rfl,rfl,hO2,hB2,hK2⟩
        case round=>
         clear hO2 hB2 hK2 y0 y1 r0 s1
         obtain⟨m,hm,rfl,rfl,hO3,hB3,hK3⟩:=hrel
         obtain⟨y0,y1⟩:=XX (zq hK3)
         have r0:=((zq hB3).cell (p:=⟨gp,off+3*q,none⟩) hgp).trans q0
         have s1:=((zq hB3).cell (p:=⟨gA,oA+j,none⟩) hgA).trans s0
         by_cases hlt3:m<l.length
         ·obtain⟨s,hms⟩:∃s,l[m]? =some s:=⟨l[m],by simp[hlt3]⟩
          obtain⟨gS,oS,xS,kS,rfl,hgS,t0,t1,t2,hRs⟩:=syF_at (zq HSY) hms
          have u0:=((zq hB3).cell (p:=⟨gS,oS+3*m,none⟩) hgS).trans t0
          have u1:=((zq hB3).cell (p:=⟨gS,oS+3*m+1,none⟩) hgS).trans t1
          have u2:=((zq hB3).cell (p:=⟨gS,oS+3*m+2,none⟩) hgS).trans t2
          have bm3:(m:Int)<(l.length:Int):=by omega
          have m3:m*3=3*m:=by omega
          have CS:=zk (fun W (bW:Below wr.heap.size wr W)=>refSome_l w.heap.size gm P.length kS xS L s W (own_lat bW (zq hO3)) (hRs.later ((zq hB3).trans (bW.mono (zq hB3).size)) (Nat.le_refl _)) (syK_of (zq HG) (List.mem_of_getElem? (zq HNP)) (List.mem_of_getElem? (zq HJL)) (List.mem_of_getElem? hms)) (by omega))
          have NX:Hid (alB L (l.take (m+1))=(alB L (l.take m)&&syB L s)):=alB_step hms
          generalize syB L s=sb at*
          clear hms t0 t1 t2 hRs
          generalize alB L (l.take m)=al at*
          go_wp2_with fail
          refine(zq CS _ (Below.refl _ _)).mono ?_
          rintro e w5 ⟨rfl,b5⟩
          have O5:=zk (own_lat b5 (zq hO3))
          have B5:=zk ((zq hB3).trans (b5.mono (zq hB3).size))
          have K5:=zk ((b5.block _ (Array.getElem?_eq_some_iff.1 (zq hK3)).1).trans (zq hK3))
          clear CS b5 hO3 hB3 hK3 y0 y1 r0 s1 u0 u1 u2
          cases al with
          |false=>
           go_wp2_with fail
           exact⟨⟨m+1,by omega,by simp,by rw[zq NX];rfl,O5,B5,K5⟩,by simp[intOf];omega⟩
          |true=>
           go_wp2_with fail
           exact⟨⟨m+1,by omega,by simp,by rw[zq NX,Bool.true_and],O5,B5,K5⟩,by simp[intOf];omega⟩
         ·obtain rfl:m=l.length:=by omega
          rw[List.take_length]at*
          have NX:Hid (RmI P k q (j+1) (L.set q (bt L q||alB L l))):=(zq hR2).alt (zq HNP) (zq HJL) (fun s hs=>by
           rcases okS (zq HG) (List.mem_of_getElem? (zq HNP)) (List.mem_of_getElem? (zq HJL)) hs with h|h|h
           ·exact .inl h
           ·exact .inr (.inl h)
           ·exact .inr (.inr ⟨h.1,h.2.1⟩)) alB_iff
          have tq:=(zq hO3).at hlt1
          have tz:=(zq hO3).fz q
          have O4:=zk ((zq hO3).set q (bt L q||alB L l))
          have B4:=zk ((zq hB3).setCell (p:=⟨gm,q,none⟩) (by show w.heap.size≤gm;omega) (.bool (bt L q||alB L l)))
          have K4:=zk ((heap_setCell_other _ ⟨gm,q,none⟩ _ (.bool (bt L q||alB L l)) (show w.heap.size≠gm by omega)).trans (zq hK3))
          rw[show L.getD q false=bt L q from rfl]at tq
          generalize bt L q=bq' at*
          generalize alB L l=al at*
          clear hR2 hO3 hB3 hK3
          cases bq' with
          |true=>
           rw[Bool.true_or]at NX O4 B4 K4
           go_wp2_with fail
           exact⟨⟨j+1,_,by omega,by simp,NX,O4,B4,K4⟩,by simp[intOf];omega⟩
          |false=>
           rw[Bool.false_or]at NX O4 B4 K4
           go_wp2_with fail
           exact⟨⟨j+1,_,by omega,by simp,NX,O4,B4,K4⟩,by simp[intOf];omega⟩
       ·obtain rfl:j=p.1.length:=by omega
        have NX:=zk ((zq hR2).next (zq HNP))
        clear hR2
        go_wp2_with fail
        exact⟨⟨q+1,L,by omega,by simp,NX,hO2,hB2,hK2⟩,by simp[intOf];omega⟩
     ·obtain rfl:q=P.length:=by omega
      have NX:=zk ((zq hR1).round)
      clear hR1
      go_wp2_with fail
      exact⟨⟨k+1,L1,by omega,by simp,NX,hO1,hB1,hK1⟩,by simp[intOf];omega⟩
   ·obtain rfl:k=P.length:=by omega
    have FIN:Hid (∀m:Nat,L0.getD m false=true↔Tx P (m:Int)):=fun m=>by
     rcases Nat.lt_or_ge m P.length with hm|hm
     ·exact(zq hR0).done (fun S hl hc q hq hw=>least_makes S hl hc q hq hw) hm
     ·constructor
      ·intro e
       have:=bt_in (S:=L0) (m:=m) e
       have:=(zq hR0).len
       omega
      ·intro hw
       obtain⟨q,e,p,hp,-⟩:=hw.pr
       have:=(List.getElem?_eq_some_iff.1 hp).1
       omega
    have HL:=zk (zq hR0).len
    clear hR0
    go_wp2_with fail
    go_ret
    exact zq HF _ L0 _ (zq hB0) (by show World.ownsRow _ _ _ _ _ _ _;rw[zq HL];exact zq hO0) (zq HL) (zq FIN)
theorem lost_any {S:List Bool} {r:Int} (h:FirstAt (S.set 0 true) false r):LostIs S r:=by
 rcases Nat.eq_zero_or_pos S.length with c|c
 ·rw[List.eq_nil_of_length_eq_zero c]at h⊢
  rcases h with ⟨k,-,h,-⟩|⟨h,-⟩
  ·cases h
  ·exact .inr ⟨h,fun j _ hj=>absurd hj (Nat.not_lt_zero _)⟩
 ·exact lost_is c h
theorem LostIs.uniq {S:List Bool} {r r':Int} (h:LostIs S r) (h':LostIs S r'):r=r':=by
 rcases h' with ⟨k,rfl,k1,hk,hn,hA⟩|⟨rfl,hA⟩
 ·exact h.at k1 hk hA hn
 ·exact h.no hA
theorem FirstAt.uniq {S:List Bool} {r r':Int} {y:Bool} (h:FirstAt S y r) (h':FirstAt S y r'):r=r':=by
 rcases h with ⟨k,rfl,h1,h2⟩|⟨rfl,h2⟩
 ·rcases h' with ⟨i,rfl,g1,g2⟩|⟨-,g2⟩
  ·rcases Nat.lt_trichotomy k i with c|c|c
   ·exact absurd h1 (g2 k c)
   ·rw[c]
   ·exact absurd g1 (h2 i c)
  ·exact absurd h1 (g2 k)
 ·rcases h' with ⟨i,rfl,g1,g2⟩|⟨rfl,-⟩
  ·exact absurd g1 (h2 i)
  ·rfl
theorem ceB_at {w:World} {a:Option Addr} {n c:Nat} {l:List Bool} (h:CeV Value.bool w (.slice a n c) l) {j:Nat} (hj:j<l.length):∃g off,a=some ⟨g,off,none⟩∧g<w.heap.size∧w.cell? ⟨g,off+j,none⟩=some (.bool (l.getD j false)):=by
 obtain⟨a',c',e,-,-,h3⟩:=h
 injection e with e1 e2 e3
 subst e1
 obtain⟨g,off,h1,h2,h4⟩:=h3 j _ (List.getElem?_eq_getElem hj)
 exact⟨g,off,h1,h2,by rw[h4,List.getD_eq_getElem?_getD,List.getElem?_eq_getElem hj];rfl⟩
theorem getD_of {S:List Bool} {k:Nat} {b:Bool} (hk:k<S.length) (h:S.getD k false=b):S[k]? =some b:=by
 rw[List.getD_eq_getElem?_getD,List.getElem?_eq_getElem hk]at h
 rw[List.getElem?_eq_getElem hk,←h];rfl
theorem refLost_l (v:Value) (g:GR) (w:World) (h:GrM w v g):Calls Tryz.prog 32 #[v] w fun e w'=>∃(r:Int) (S:List Bool),e= .returned (.int .i64 r)∧fromS g 0 S∧LostIs S r∧Below w.heap.size w w':=by
 have CF:=zk (fun W (bW:Below w.heap.size w W)=>refFrom_l v g 0 W (h.later bW))
 obtain⟨a,c,aK,cK,rfl,hp,-⟩:=id h
 clear h hp
 generalize g.1.length=nP at*
 generalize g.2.length=nK at*
 go_enter Tryz.func32,Tryz.ntmps32
 go_wp2_with fail
 refine(zq CF _ (Below.new1 _)).mono ?_
 rintro e w1 ⟨v,S,rfl,hv,hs,b1⟩
 have hl:=hs.len
 have HS:=zk hs
 have B1:=zk (Xj (Below.new1 _) b1)
 have VS:Hid (CeV Value.bool w1 v S):=ceOwn hv
 clear CF hs b1 hv
 obtain⟨a1,c1,rfl,hc1,hc2,-⟩:=id (zq VS)
 unfold maxLen at hc2
 generalize hn:S.length=n at*
 have HN:=zk hn
 clear hn
 go_wp2_with fail
 go_loopw [4] (fun i wr=>∃k:Nat,1≤k∧(n=0∨k≤n)∧i= .int .i64 (k:Int)∧Hid (∀j,1≤j→j<k→S.getD j false=true)∧wr=w1) (fun i _=>n-(intOf i).toNat)
 case atStart=>exact⟨1,Nat.le_refl _,by omega,rfl,fun j h1 h2=>by omega,rfl⟩
 case round=>
  obtain⟨k,k1,hk,rfl,hA,rfl⟩:=hrel
  by_cases hlt:k<n
  ·obtain⟨g6,o6,rfl,-,tq⟩:=ceB_at (zq VS) (show k<S.length by rw[zq HN];exact hlt)
   have bk:(k:Int)<(n:Int):=by omega
   cases hsk:S.getD k false with
   |true=>
    rw[hsk]at tq
    have HSK:=zk hsk
    clear hsk
    go_wp2_with fail
    exact⟨⟨k+1,by omega,by omega,by simp,fun j j1 j2=>by
     rcases Nat.lt_succ_iff_lt_or_eq.1 j2 with h|h
     ·exact zq hA j j1 h
     ·subst h;exact zq HSK,trivial⟩,by simp[intOf];omega⟩
   |false=>
    rw[hsk]at tq
    have FIN:Hid (LostIs S (k:Int)):= .inl ⟨k,rfl,k1,by rw[zq HN];exact hlt,hsk,zq hA⟩
    clear hsk
    go_wp2_with fail
    go_ret
    exact⟨_,S,rfl,zq HS,zq FIN,zq B1⟩
  ·have FIN:Hid (LostIs S (-1)):= .inr ⟨rfl,fun j j1 j2=>zq hA j j1 (by rw[zq HN]at j2;omega)⟩
   go_wp2_with fail
   go_ret
   exact⟨_,S,rfl,zq HS,zq FIN,zq B1⟩
theorem refVain_l (v:Value) (g:GR) (w:World) (h:GrM w v g):Calls Tryz.prog 34 #[v] w fun e w'=>∃(r:Int) (S:List Bool),e= .returned (.int .i64 r)∧makeS g S∧FirstAt S false r∧Below w.heap.size w w':=by
 have CF:=zk (fun W (bW:Below w.heap.size w W)=>refMakes_l v g W (h.later bW))
 obtain⟨a,c,aK,cK,rfl,hp,-⟩:=id h
 clear h hp
 generalize g.1.length=nP at*
 generalize g.2.length=nK at*
 go_enter Tryz.func34,Tryz.ntmps34
 go_wp2_with fail
 refine(zq CF _ (Below.new1 _)).mono ?_
 rintro e w1 ⟨v,S,rfl,hv,hs,b1⟩
 have hl:=hs.len
 have HS:=zk hs
 have B1:=zk (Xj (Below.new1 _) b1)
 have VS:Hid (CeV Value.bool w1 v S):=ceOwn hv
 clear CF hs b1 hv
 obtain⟨a1,c1,rfl,hc1,hc2,-⟩:=id (zq VS)
 unfold maxLen at hc2
 generalize hn:S.length=n at*
 have HN:=zk hn
 clear hn
 go_wp2_with fail
 go_loopw [4] (fun i wr=>∃k:Nat,(n=0∨k≤n)∧i= .int .i64 (k:Int)∧Hid (∀j,j<k→S[j]?≠some false)∧wr=w1) (fun i _=>n-(intOf i).toNat)
 case atStart=>exact⟨0,.inr (Nat.zero_le _),rfl,fun j h=>absurd h (Nat.not_lt_zero _),rfl⟩
 case round=>
  obtain⟨k,hk,rfl,hA,rfl⟩:=hrel
  by_cases hlt:k<n
  ·obtain⟨g6,o6,rfl,-,tq⟩:=ceB_at (zq VS) (show k<S.length by rw[zq HN];exact hlt)
   have bk:(k:Int)<(n:Int):=by omega
   cases hsk:S.getD k false with
   |true=>
    rw[hsk]at tq
    have HSK:=zk hsk
    clear hsk
    go_wp2_with fail
    exact⟨⟨k+1,by omega,by simp,fun j j2=>by
     rcases Nat.lt_succ_iff_lt_or_eq.1 j2 with h|h
     ·exact zq hA j h
     ·subst h;rw[getD_of (by rw[zq HN];exact hlt) (zq HSK)];exact fun c=>Bool.noConfusion (Option.some.inj c),trivial⟩,by simp[intOf];omega⟩
   |false=>
    rw[hsk]at tq
    have FIN:Hid (FirstAt S false (k:Int)):= .inl ⟨k,rfl,getD_of (by rw[zq HN];exact hlt) hsk,zq hA⟩
    clear hsk
    go_wp2_with fail
    go_ret
    exact⟨_,S,rfl,zq HS,zq FIN,zq B1⟩
  ·have FIN:Hid (FirstAt S false (-1)):= .inr ⟨rfl,fun j hj=>by
    have:=(List.getElem?_eq_some_iff.1 hj).1
    exact absurd hj (zq hA j (by rw[zq HN]at this;omega))⟩
   go_wp2_with fail
   go_ret
   exact⟨_,S,rfl,zq HS,zq FIN,zq B1⟩
end Go.Proofs.YtcblkmlcbedomaaGreatDoor.Rc
namespace Go.Proofs.YtcblkmlcbedomaaGreatDoor.Rc
open Go.RowKit Go.Shelf Go.Proofs.YtcblkmlcbedomaaGreatDoor.T Go.Proofs.YtcblkmlcbedomaaGreatDoor.R Go.Proofs.YtcblkmlcbedomaaGreatDoor.F Go.Proofs.YtcblkmlcbedomaaGreatDoor.Nl Go.Proofs.YtcblkmlcbedomaaGreatDoor.K
theorem makeS.uniq {g:GR} {S S':List Bool} (h:makeS g S) (h':makeS g S'):S=S':=by
 rcases h with ⟨a,h1,h2⟩|⟨a,rfl⟩
 ·rcases h' with ⟨-,h3,h4⟩|⟨a',-⟩
  ·exact same_len (by omega) (fun m=>(h2 m).trans (h4 m).symm)
  ·rw[a]at a';cases a'
 ·rcases h' with ⟨a',-⟩|⟨-,rfl⟩
  ·rw[a]at a';cases a'
  ·rfl
theorem eq_self (l:List Bool):eqG (fun x y=>x==y) l l=true:=(eqG_iff _ (by simp) l l).2 rfl
theorem reachTells_walk (v:Value) (g:GR) (n:Int) (w:World) (h:GrM w v g) (hf:∀p∈g.1,∀l∈p.1,∀s∈l,yQ s.2.2):
  Calls Tryz.prog 9 #[v,.int .i64 n] w fun e w'=>e= .returned (.bool true)∧Below w.heap.size w w':=by
 have CA:=zk (fun W=>awake11_l W)
 have C1:=zk (fun W (bW:Below w.heap.size w W)=>From_l v g n W (h.later bW))
 have C2:=zk (fun W (bW:Below w.heap.size w W)=>refFrom_l v g n W (h.later bW))
 have C3:=zk (fun W (bW:Below w.heap.size w W)=>Makes_l v g W (h.later bW))
 have C4:=zk (fun W (bW:Below w.heap.size w W)=>refMakes_l v g W (h.later bW))
 have C5:=zk (fun W (bW:Below w.heap.size w W)=>Lost_l v g W (h.later bW))
 have C6:=zk (fun W (bW:Below w.heap.size w W)=>refLost_l v g W (h.later bW))
 have C7:=zk (fun W (bW:Below w.heap.size w W)=>Vain_l v g W (h.later bW))
 have C8:=zk (fun W (bW:Below w.heap.size w W)=>refVain_l v g W (h.later bW))
 obtain⟨a,c,aK,cK,rfl,hp,-⟩:=id h
 have CF:=zk (fun W (bW:Below w.heap.size w W)=>few_l a c g.2.length cK aK g.1 W ((hp.later bW).prl hf))
 generalize hnK:g.2.length=nK at*
 generalize hnP:g.1.length=nP at*
 clear h hp hf hnK hnP
 go_enter Tryz.func9,Tryz.ntmps9
 go_wp2_with fail
 have G0:=heap_alloc_new w (.cells #[.slice a nP c,.slice aK nK cK] 25)
 refine(zq CA _).mono ?_
 clear CA
 rintro e w1 ⟨rfl,b1⟩
 have G1:=(b1.block _ (Array.getElem?_eq_some_iff.1 G0).1).trans G0
 obtain⟨y0,y1⟩:=XX G1
 have B1:=zk (Xj (Below.new1 _) b1)
 clear b1 G0
 go_wp2_with fail
 refine(zq CF _ (zq B1)).mono ?_
 clear CF
 rintro e w2 ⟨⟨few,rfl⟩,b2⟩
 have G2:=(b2.block _ (Array.getElem?_eq_some_iff.1 G1).1).trans G1
 have B2:=zk (Xj (zq B1) b2)
 clear b2 G1 B1 y0 y1
 obtain⟨y0,y1⟩:=XX G2
 cases few with
 |false=>
  go_wp2_with fail
  go_ret
  exact⟨rfl,zq B2⟩
 |true=>
  go_wp2_with fail
  have KS:=zk (fun(X:World) (b:Below w2.heap.size w2 X)=>show X.cell? ⟨w.heap.size,0,none⟩=some (.slice a nP c)∧X.cell? ⟨w.heap.size,1,none⟩=some (.slice aK nK cK) from⟨(b.cell (zJ y0)).trans y0,(b.cell (zJ y1)).trans y1⟩)
  go_region_held3 (fun w'=>w'.cell? ⟨w.heap.size,0,none⟩=some (.slice a nP c)∧w'.cell? ⟨w.heap.size,1,none⟩=some (.slice aK nK cK))
   (first|exact zq KS _ k5|exact zq KS _ k4|exact zq KS _ k3|exact⟨y0,y1⟩)
   (first
    |(go_at_call 27;refine(zq C1 _ (Xj (zq B2) drB)).mono ?_;rintro e w3 ⟨v3,X3,rfl,hv3,hX3,b3⟩;have k3:=Xj (drB (w:=w2)) b3)
    |(go_at_call 28;refine(zq C2 _ (Xj (zq B2) k3)).mono ?_;rintro e w4 ⟨v4,X4,rfl,hv4,hX4,b4⟩;have eX:=hX3.uniq hX4;subst eX;have k4:=Xj k3 b4;have CB:=zk (bools_l v3 v4 X3 X3 w4 ((ceOwn (enc:=Value.bool) hv3).later b4) (ceOwn (enc:=Value.bool) hv4));rw[eq_self]at CB)
    |(go_at_call 26;refine(zq CB).mono ?_;rintro e w5 ⟨rfl,b5⟩;have k5:=Xj k4 b5))
  have G5:=(k5.block _ (Array.getElem?_eq_some_iff.1 G2).1).trans G2
  have B5:=zk (Xj (zq B2) k5)
  clear CB C1 C2 KS hv3 hX3 hv4 hX4 k3 k4 k5 b3 b4 b5 y0 y1 G2 B2
  obtain⟨y0,y1⟩:=XX G5
  go_wp2_with fail
  have KS:=zk (fun(X:World) (b:Below w5.heap.size w5 X)=>show X.cell? ⟨w.heap.size,0,none⟩=some (.slice a nP c)∧X.cell? ⟨w.heap.size,1,none⟩=some (.slice aK nK cK) from⟨(b.cell (zJ y0)).trans y0,(b.cell (zJ y1)).trans y1⟩)
  go_region_held3 (fun w'=>w'.cell? ⟨w.heap.size,0,none⟩=some (.slice a nP c)∧w'.cell? ⟨w.heap.size,1,none⟩=some (.slice aK nK cK))
   (first|exact zq KS _ k8|exact zq KS _ k7|exact zq KS _ k6|exact⟨y0,y1⟩)
   (first
    |(go_at_call 29;refine(zq C3 _ (Xj (zq B5) drB)).mono ?_;rintro e w6 ⟨v6,X6,rfl,hv6,hX6,b6⟩;have k6:=Xj (drB (w:=w5)) b6)
    |(go_at_call 30;refine(zq C4 _ (Xj (zq B5) k6)).mono ?_;rintro e w7 ⟨v7,X7,rfl,hv7,hX7,b7⟩;have eX:=hX6.uniq hX7;subst eX;have k7:=Xj k6 b7;have CB:=zk (bools_l v6 v7 X6 X6 w7 ((ceOwn (enc:=Value.bool) hv6).later b7) (ceOwn (enc:=Value.bool) hv7));rw[eq_self]at CB)
    |(go_at_call 26;refine(zq CB).mono ?_;rintro e w8 ⟨rfl,b8⟩;have k8:=Xj k7 b8))
  have G8:=(k8.block _ (Array.getElem?_eq_some_iff.1 G5).1).trans G5
  have B8:=zk (Xj (zq B5) k8)
  clear CB C3 C4 KS hv6 hX6 hv7 hX7 k6 k7 k8 b6 b7 b8 y0 y1 G5 B5
  obtain⟨y0,y1⟩:=XX G8
  go_wp2_with fail
  have KS:=zk (fun(X:World) (b:Below w8.heap.size w8 X)=>show X.cell? ⟨w.heap.size,0,none⟩=some (.slice a nP c)∧X.cell? ⟨w.heap.size,1,none⟩=some (.slice aK nK cK) from⟨(b.cell (zJ y0)).trans y0,(b.cell (zJ y1)).trans y1⟩)
  go_region_held3 (fun w'=>w'.cell? ⟨w.heap.size,0,none⟩=some (.slice a nP c)∧w'.cell? ⟨w.heap.size,1,none⟩=some (.slice aK nK cK))
   (first|exact zq KS _ k12|exact zq KS _ k11|exact zq KS _ k10|exact zq KS _ k9|exact⟨y0,y1⟩)
   (first
    |(go_at_call 31;refine(zq C5 _ (Xj (zq B8) drB)).mono ?_;rintro e w9 ⟨r1,S1,rfl,hS1,hr1,b9⟩;have k9:=Xj (drB (w:=w8)) b9)
    |(go_at_call 32;refine(zq C6 _ (Xj (zq B8) k9)).mono ?_;rintro e w10 ⟨r2,S2,rfl,hS2,hr2,b10⟩;have eS:=hS1.uniq hS2;subst eS;have eR:=(lost_any hr1).uniq hr2;subst eR;have k10:=Xj k9 b10;clear hS1 hS2 hr1 hr2)
    |(go_at_call 33;refine(zq C7 _ (Xj (zq B8) k10)).mono ?_;rintro e w11 ⟨r3,S3,rfl,hS3,hr3,b11⟩;have k11:=Xj k10 b11)
    |(go_at_call 34;refine(zq C8 _ (Xj (zq B8) k11)).mono ?_;rintro e w12 ⟨r4,S4,rfl,hS4,hr4,b12⟩;have eT:=hS3.uniq hS4;subst eT;have eU:=hr3.uniq hr4;subst eU;have k12:=Xj k11 b12;clear hS3 hS4 hr3 hr4))
  have B12:=zk (Xj (zq B8) k12)
  clear C5 C6 C7 C8 KS k9 k10 k11 k12 b9 b10 b11 b12
  go_wp2_with fail
  go_ret
  exact⟨rfl,zq B12⟩
end Go.Proofs.YtcblkmlcbedomaaGreatDoor.Rc

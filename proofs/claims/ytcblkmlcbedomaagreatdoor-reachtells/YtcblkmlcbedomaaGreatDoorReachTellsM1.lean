/- Parts of the proof that stand ahead of it (ReachTells 1). -/
import Derived.Test.YtcblkmlcbedomaaGreatDoorTM1
set_option linter.unusedVariables false
set_option linter.unusedSimpArgs false
set_option maxRecDepth 20000
set_option maxHeartbeats 16000000
namespace Go.Proofs.YtcblkmlcbedomaaGreatDoor
namespace G
/-! ### Sizes -/
def sizeL:List (Int×Int)→Int
 | []=>0
 |r::t=>(r.2-r.1+1)+sizeL t
theorem sizeL_append (a b:List (Int×Int)):sizeL (a++b)=sizeL a+sizeL b:=by
 induction a with
 |nil=>simp[sizeL]
 |cons r t ih=>simp[sizeL,ih];omega
theorem cnt_congr {p q:Int→Bool} (N:Nat) (h:∀n:Int,0≤n→n<N→p n=q n):cnt p N=cnt q N:=by
 induction N with
 |zero=>rfl
 |succ k ih=>rw[cnt,cnt,ih (fun n h0 h1=>h n h0 (by omega)),h k (by omega) (by omega)]
theorem cnt_or (p q:Int→Bool) (N:Nat):cnt (fun n=>p n||q n) N+cnt (fun n=>p n&&q n) N=cnt p N+cnt q N:=by
 induction N with
 |zero=>rfl
 |succ k ih=>
  simp only[cnt]
  rcases Bool.eq_false_or_eq_true (p k)with h1|h1<;>rcases Bool.eq_false_or_eq_true (q k)with h2|h2<;>simp[h1,h2]<;>omega
theorem cnt_none (N:Nat):cnt (fun _=>false) N=0:=by
 induction N with
 |zero=>rfl
 |succ k ih=>simp[cnt,ih]
theorem cnt_run (x y:Int) (N:Nat) (hx:0≤x):cnt (fun n=>decide (x≤n)&&decide (n≤y)) N=if (N:Int)≤x then 0 else if y<x then 0 else if (N:Int)≤y then N-x else y-x+1:=by
 induction N with
 |zero=>simp[cnt];omega
 |succ k ih=>
  rw[cnt,ih]
  simp only[Bool.and_eq_true,decide_eq_true_eq]
  push_cast
  repeat' split
  all_goals omega
theorem size_cnt {l:List (Int×Int)} {least:Int} (h:yZ least l=true) (h0:0≤least) (N:Nat) (hN:1114112≤N):sizeL l=cnt (hasB l) N:=by
 induction l generalizing least with
 |nil=>rw[show hasB []=fun _=>false from rfl,cnt_none];rfl
 |cons r t ih=>
  obtain⟨x,y⟩:=r
  rw[mayFrom_cons]at h
  simp only at h
  have e:=ih h.2.2.2 (by omega)
  have o:=cnt_or (fun n=>decide (x≤n)&&decide (n≤y)) (hasB t) N
  have z:cnt (fun n=>(decide (x≤n)&&decide (n≤y))&&hasB t n) N=0:=by
   rw[←cnt_none N]
   refine cnt_congr N fun n _ _=> ?_
   by_cases c:n≤y
   ·rw[Y9 h.2.2.2 (by omega)];simp
   ·simp[c]
  have s:cnt (hasB ((x,y)::t)) N=cnt (fun n=>(decide (x≤n)&&decide (n≤y))||hasB t n) N:=cnt_congr N fun n _ _=>yK _ _ _
  rw[sizeL,e,s]
  rw[z,cnt_run x y N (by omega),if_neg (by omega),if_neg (by omega),if_neg (by omega)]at o
  simp only;omega
theorem Is.size {l:List (Int×Int)} {p:Int→Bool} (h:Is l p):sizeL l=G.size p:=by
 rw[size_cnt h.1 (Int.le_refl _) 1114112 (Nat.le_refl _)]
 exact cnt_congr _ fun n _ _=>h.2 n
theorem sizeL_bounds {l:List (Int×Int)} {least:Int} (h:yZ least l=true) (h0:least≤1114113):0≤sizeL l∧sizeL l≤1114113-least:=by
 induction l generalizing least with
 |nil=>simp[sizeL];omega
 |cons r t ih=>
  rw[mayFrom_cons]at h
  have:=ih h.2.2.2 (by omega)
  simp only[sizeL];omega
/-! ### Borders, and what is merged by them -/
end G
end Go.Proofs.YtcblkmlcbedomaaGreatDoor

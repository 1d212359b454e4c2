/- Parts of the proof that stand ahead of it (T 8). -/
import Derived.BigQuiet
import Derived.Lib.Strings
import Derived.Test.YtcblkmlcbedomaaGreatDoorTM4
import Derived.Test.YtcblkmlcbedomaaGreatDoorTM5
set_option linter.unusedVariables false
set_option linter.unusedSimpArgs false
set_option maxRecDepth 20000
set_option maxHeartbeats 16000000
namespace Go.Proofs.YtcblkmlcbedomaaGreatDoor.T
open Go.RowKit
def St (s:ByteArray) (l:List Int):Prop:=s=strOfNums l∧U.zv l
theorem St.size {s:ByteArray} {l:List Int} (h:St s l):s.size=l.length:=by rw[h.1,strOfNums_size]
theorem St.get {s:ByteArray} {l:List Int} (h:St s l) {k:Nat} (hk:k<s.size):((s[k]'hk).toNat:Int)=l.getD k 0:=by
 obtain⟨rfl,hb⟩:=h
 have hk':k<l.length:=by rw[strOfNums_size]at hk;exact hk
 have e:(strOfNums l)[k]'hk=UInt8.ofNat (l[k]).toNat:=by
  show(strOfNums l).data[k]'_=_
  have h1:(strOfNums l).data.toList=l.map fun n=>UInt8.ofNat n.toNat:=strOfNums_data l
  have h2:(strOfNums l).data.toList[k]? =some (UInt8.ofNat (l[k]).toNat):=by rw[h1];simp[hk']
  rw[Array.getElem?_toList]at h2
  exact(Array.getElem?_eq_some_iff.1 h2).2
 rw[e]
 have hb':=hb l[k] (List.getElem_mem hk')
 simp[List.getD,hk',UInt8.toNat_ofNat']
 omega
theorem St.ix {s:ByteArray} {l:List Int} (h:St s l) {k:Nat} (hk:k<l.length):∀W,(Instr.index 9 (.string s) (.int .i64 (k:Int))).run Tryz.prog W= .ok (.int .u8 (l.getD k 0)) W:=by
 intro W
 have hk':k<s.size:=by rw[h.size];exact hk
 rw[run_index_string W 9 s .i64 k Tryz.underlying9,dif_pos ⟨by omega,by omega⟩]
 have:=h.get hk'
 simp only[Int.toNat_natCast]
 rw[this]
/-! ### Parts of strings, and their bytes -/
theorem St.sub {s:ByteArray} {l:List Int} (h:St s l) (a b:Nat):s.extract a b=strOfNums ((l.drop a).take (b-a)):=by
 rw[Lib.extract_eq,h.1,strOfNums_data]
 show _=(⟨(((l.drop a).take (b-a)).map fun n=>UInt8.ofNat n.toNat).toArray⟩:ByteArray)
 rw[List.map_take,List.map_drop]
theorem St.of {l:List Int} (h:U.zv l):St (strOfNums l) l:=⟨rfl,h⟩
theorem St.tail {s:ByteArray} {l:List Int} (h:St s l) {a:Nat} (ha:a≤l.length):∀W,(Instr.slice 9 (.string s) (some (.int .i64 (a:Int))) none none).run Tryz.prog W= .ok (.string (strOfNums (l.drop a))) W:=by
 intro W
 rw[run_slice_string_l (w:=W) 9 s Tryz.underlying9 .i64 (a:Int) (by omega) (by rw[h.size];omega),h.sub,h.size]
 simp only[Int.toNat_natCast]
 rw[List.take_of_length_le (by rw[List.length_drop];omega)]
theorem bs_conv (w:World) {s:ByteArray} {l:List Int} (h:St s l) (hl:l.length≤maxLen) (fr:Nat×Nat):
  Bs (w.drew.alloc (.cells (bytesRow s (grownCap w s.size 0 5)) 5 fr)) (some ⟨w.heap.size,0,none⟩) s.size (grownCap w s.size 0 5) l:=by
 have hsz:=h.size
 refine⟨hsz.symm,grownCap_ge _ _ _ _,grownCap_le_maxLen _ _ _ _ (by rw[hsz];exact hl),h.2,fun i hi=>⟨_,_,rfl,?_⟩⟩
 have e:(w.drew.alloc (.cells (bytesRow s (grownCap w s.size 0 5)) 5 fr)).heap[w.heap.size]? =some (.cells (bytesRow s (grownCap w s.size 0 5)) 5 fr):=heap_alloc_new w.drew _
 unfold World.cell?
 rw[e]
 simp only[Nat.zero_add]
 unfold bytesRow
 have hi2:i<s.data.size:=hi
 rw[Array.getElem?_append_left (by simpa using hi2),Array.getElem?_map,Array.getElem?_eq_getElem hi2]
 simp only[Option.map_some]
 have:=h.get (k:=i) hi
 rw[←this]
 rfl
theorem zX {w:World} {k:Nat} {B:Nat}:Below B w (w.drewN k):=⟨rfl,rfl,rfl,Nat.le_refl _,fun _ _=>rfl⟩
/-! ### Plain -/
theorem ZK (l:List Int) (a k:Nat):(l.drop a).getD k 0=l.getD (a+k) 0:=by simp[List.getD,List.getElem?_drop]
theorem tail_at {l:List Int} {k:Nat} (hk:k<l.length):vQ (l.drop k)=if isW (l.getD k 0)then vQ (l.drop (k+1))+1 else 0:=by
 have e:l.drop k=l.getD k 0::l.drop (k+1):=by
  rw[List.drop_eq_getElem_cons hk]
  simp[List.getD,hk]
 rw[e]
 rfl
def jy (p:Option (Int×Nat)):Int×Nat:=p.getD (0,0)
def bnd:Nat→Int
 |0=>0
 |n+1=>16*bnd n+15
theorem bnd_le:∀j,j<7→0≤bnd j∧bnd j≤16777215:=by decide
theorem dig_yes {m:Nat} {v:Int} {l:List Int} {k:Nat} (hk:k<l.length) (h:0≤xw (l.getD k 0)):yi (m+1) v (l.drop k)=((yi m (16*v+xw (l.getD k 0)) (l.drop (k+1))).1,(yi m (16*v+xw (l.getD k 0)) (l.drop (k+1))).2+1):=by
 have e:l.drop k=l.getD k 0::l.drop (k+1):=by
  rw[List.drop_eq_getElem_cons hk]
  simp[List.getD,hk]
 rw[e]
 simp only[yi]
 rw[if_pos h]
theorem dig_no {m:Nat} {v:Int} {l:List Int} {k:Nat} (h:xw (l.getD k 0)<0):yi m v (l.drop k)=(v,0):=by
 cases m with
 |zero=>rfl
 |succ m=>
  by_cases hk:k<l.length
  ·have e:l.drop k=l.getD k 0::l.drop (k+1):=by
    rw[List.drop_eq_getElem_cons hk]
    simp[List.getD,hk]
   rw[e]
   simp only[yi]
   rw[if_neg (by omega)]
  ·rw[List.drop_of_length_le (by omega)];rfl
theorem dig_over {m:Nat} {v:Int} {l:List Int} {k:Nat} (h:l.length≤k):yi m v (l.drop k)=(v,0):=by
 rw[List.drop_of_length_le h]
 cases m<;>rfl
theorem sign_raw {r:List Int} (h:r≠[]) (h92:r.getD 0 0≠92):jy (jk r)=if (U.yw r).1<32∨(U.yw r).1=91∨(U.yw r).1=93∨(U.yw r).1=94∨(U.yw r).1=45 then (0,0)else U.yw r:=by
 unfold jk jy
 rw[if_neg h,if_pos h92]
 split<;>rfl
theorem sign_nou {r:List Int} (h:r≠[]) (h92:r.getD 0 0=92) (hu:r.getD 1 0≠117):jy (jk r)=(0,0):=by
 unfold jk
 rw[if_neg h,if_neg (by rw[h92];simp),if_pos hu]
 rfl
theorem sign_esc {r:List Int} (h:r≠[]) (h92:r.getD 0 0=92) (hu:r.getD 1 0=117) {v:Int} {j:Nat} (hd:yi 6 0 (r.drop 2)=(v,j)):
  jy (jk r)=if j=0∨U.zo v=false∨r.getD (2+j) 0≠59 then (0,0)else (v,j+3):=by
 unfold jk
 rw[if_neg h,if_neg (by rw[h92];simp),if_neg (by rw[hu];simp),hd]
 simp only
 split<;>rfl
end Go.Proofs.YtcblkmlcbedomaaGreatDoor.T

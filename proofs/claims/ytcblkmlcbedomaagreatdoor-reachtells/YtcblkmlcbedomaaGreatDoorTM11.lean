/- Parts of the proof that stand ahead of it (T 11). -/
import Derived.Deep.AppendLies
import Derived.Test.YtcblkmlcbedomaaGreatDoorTM8
import Derived.Test.YtcblkmlcbedomaaGreatDoorTM9
set_option linter.unusedVariables false
set_option linter.unusedSimpArgs false
set_option maxRecDepth 20000
set_option maxHeartbeats 16000000
namespace Go.Proofs.YtcblkmlcbedomaaGreatDoor.T
open Go.RowKit
/-! ### Marks -/
theorem Ya (l:List Int) (b:ByteArray) (h:b=strOfNums l):b=strOfNums l:=h
theorem drop_ne {l:List Int} {k:Nat} (h:k<l.length):l.drop k≠[]:=by
 intro e
 have:=congrArg List.length e
 rw[List.length_drop,List.length_nil]at this
 omega
theorem new_byte (w:World) (n:Nat) (x:Int) (hn:n=w.heap.size):∀(j:Nat) (u:Value),[Value.int .u8 x][j]? =some u→(w.alloc (.cells #[.int .u8 x] 5)).cell? ((⟨n,0,none⟩:Addr).add j)=some u:=by
 subst hn
 exact World.news_of_block (cs:= #[.int .u8 x]) (t:=5) (fr:=(0,0)) (heap_alloc_new w _)
theorem grow_b {B:Nat} {w w2 w1:World} {e:TypeId} {sz n:Nat} {v:Value} {xs:List Value} (h:w2.ownsRow B e sz v n xs) (hb:Below B w w2) (hB:B≤w2.heap.size) (hg:w2.grownBy w1 v.ownBlock):Below B w w1:=
 hb.grown hg hB (fun k hk=>(h.lt k hk).1)
theorem u8_snoc (l:List Int) (x:Int):(l++[x]).map (Value.int .u8)=l.map (Value.int .u8)++[.int .u8 x]:=by simp
end Go.Proofs.YtcblkmlcbedomaaGreatDoor.T

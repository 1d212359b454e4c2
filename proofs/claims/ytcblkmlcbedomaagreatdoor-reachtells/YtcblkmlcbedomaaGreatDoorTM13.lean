/- Parts of the proof that stand ahead of it (T 13). -/
import Derived.Test.YtcblkmlcbedomaaGreatDoorChecked
import Derived.Shelf.Bytes.SlTrim
import Derived.Shelf.Strings.BuilderK
set_option linter.unusedVariables false
set_option linter.unusedSimpArgs false
set_option maxRecDepth 20000
set_option maxHeartbeats 16000000
namespace Go.Proofs.YtcblkmlcbedomaaGreatDoor
open Go.Shelf
def ixByte_ren:Go.Shelf.Ren:=⟨fun|137=>260|217=>269|266=>271|n=>n,fun|9=>9|5=>5|3=>3|n=>n,fun|n=>n⟩
theorem ixByte_lays:Go.Proofs.Lays.n137 Tryz.prog ixByte_ren:=
 {
  mixed:=by kernel_rfl,
  f137:=Tryz.func260.trans (congrArg some (by kernel_rfl)),
  f217:=Tryz.func269.trans (congrArg some (by kernel_rfl)),
  f266:=Tryz.func271.trans (congrArg some (by kernel_rfl)),
  t3:=Tryz.underlying3,
  a3:=Tryz.isAgg3,
  z3:=Tryz.sizeOf3,
  v3:=Tryz.zeroValue3,
  t5:=Tryz.underlying5,
  a5:=Tryz.isAgg5,
  z5:=Tryz.sizeOf5,
  v5:=Tryz.zeroValue5,
  t9:=Tryz.underlying9,
  a9:=Tryz.isAgg9,
  z9:=Tryz.sizeOf9,
  v9:=Tryz.zeroValue9
 }
def hasPre_ren:Go.Shelf.Ren:=⟨fun|116=>212|115=>232|n=>n,fun|37=>130|4=>4|3=>3|9=>9|5=>5|n=>n,fun|n=>n⟩
theorem hasPre_lays:Go.Proofs.Lays.nb116 Tryz.prog hasPre_ren:=
 {
  mixed:=by kernel_rfl,
  f115:=Tryz.func232.trans (congrArg some (by kernel_rfl)),
  f116:=Tryz.func212.trans (congrArg some (by kernel_rfl)),
  t3:=Tryz.underlying3,
  a3:=Tryz.isAgg3,
  z3:=Tryz.sizeOf3,
  v3:=Tryz.zeroValue3,
  t4:=Tryz.underlying4,
  a4:=Tryz.isAgg4,
  z4:=Tryz.sizeOf4,
  v4:=Tryz.zeroValue4,
  t9:=Tryz.underlying9,
  a9:=Tryz.isAgg9,
  z9:=Tryz.sizeOf9,
  v9:=Tryz.zeroValue9,
  t37:=Tryz.underlying130,
  a37:=Tryz.isAgg130,
  z37:=Tryz.sizeOf130,
  v37:=Tryz.zeroValue130,
  t5:=Tryz.underlying5,
  a5:=Tryz.isAgg5,
  z5:=Tryz.sizeOf5,
  v5:=Tryz.zeroValue5
 }
def trimL_ren:Go.Shelf.Ren:=⟨fun|8=>142|9=>192|11=>193|12=>194|14=>195|16=>224|17=>225|18=>226|20=>241|n=>n,fun|22=>130|9=>9|3=>3|4=>4|5=>5|28=>223|27=>222|0=>0|31=>226|33=>251|21=>21|36=>276|37=>173|40=>279|39=>278|n=>n,fun|0=>0|1=>1|n=>n⟩
theorem trimL_lays:Go.Proofs.SlLaysV.n8 Tryz.prog trimL_ren:=
 {
  mixed:=by kernel_rfl,
  f8:=Tryz.func142.trans (congrArg some (by kernel_rfl)),
  f9:=Tryz.func192.trans (congrArg some (by kernel_rfl)),
  f11:=Tryz.func193.trans (congrArg some (by kernel_rfl)),
  f12:=Tryz.func194.trans (congrArg some (by kernel_rfl)),
  f14:=Tryz.func195.trans (congrArg some (by kernel_rfl)),
  f16:=Tryz.func224.trans (congrArg some (by kernel_rfl)),
  f17:=Tryz.func225.trans (congrArg some (by kernel_rfl)),
  f18:=Tryz.func226.trans (congrArg some (by kernel_rfl)),
  f20:=Tryz.func241.trans (congrArg some (by kernel_rfl)),
  t0:=Tryz.underlying0,
  a0:=Tryz.isAgg0,
  z0:=Tryz.sizeOf0,
  v0:=Tryz.zeroValue0,
  t3:=Tryz.underlying3,
  a3:=Tryz.isAgg3,
  z3:=Tryz.sizeOf3,
  v3:=Tryz.zeroValue3,
  t4:=Tryz.underlying4,
  a4:=Tryz.isAgg4,
  z4:=Tryz.sizeOf4,
  v4:=Tryz.zeroValue4,
  t5:=Tryz.underlying5,
  a5:=Tryz.isAgg5,
  z5:=Tryz.sizeOf5,
  v5:=Tryz.zeroValue5,
  t9:=Tryz.underlying9,
  a9:=Tryz.isAgg9,
  z9:=Tryz.sizeOf9,
  v9:=Tryz.zeroValue9,
  t21:=Tryz.underlying21,
  a21:=Tryz.isAgg21,
  z21:=Tryz.sizeOf21,
  v21:=Tryz.zeroValue21,
  t22:=Tryz.underlying130,
  a22:=Tryz.isAgg130,
  z22:=Tryz.sizeOf130,
  v22:=Tryz.zeroValue130,
  t27:=Tryz.underlying222,
  a27:=Tryz.isAgg222,
  z27:=Tryz.sizeOf222,
  t28:=Tryz.underlying223,
  a28:=Tryz.isAgg223,
  z28:=Tryz.sizeOf223,
  v28:=Tryz.zeroValue223,
  t31:=Tryz.underlying226,
  a31:=Tryz.isAgg226,
  z31:=Tryz.sizeOf226,
  v31:=Tryz.zeroValue226,
  t33:=Tryz.underlying251,
  a33:=Tryz.isAgg251,
  z33:=Tryz.sizeOf251,
  v33:=Tryz.zeroValue251,
  t36:=Tryz.underlying276,
  a36:=Tryz.isAgg276,
  z36:=Tryz.sizeOf276,
  t37:=Tryz.underlying173,
  a37:=Tryz.isAgg173,
  z37:=Tryz.sizeOf173,
  v37:=Tryz.zeroValue173,
  t39:=Tryz.underlying278,
  a39:=Tryz.isAgg278,
  z39:=Tryz.sizeOf278,
  v39:=Tryz.zeroValue278,
  t40:=Tryz.underlying279,
  a40:=Tryz.isAgg279,
  z40:=Tryz.sizeOf279,
  v40:=Tryz.zeroValue279
 }
end Go.Proofs.YtcblkmlcbedomaaGreatDoor

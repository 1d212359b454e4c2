/- Parts of the proof of NullJoin that stand ahead of it (15: TkLay). -/
import Derived.Test.YtamefbpdnblbdaaGreatDoorChecked
import Derived.Shelf.Small.Strs
import Derived.Shelf.Bytes.SlSmallAll
import Derived.Shelf.Bytes.SlTrim
import Derived.Shelf.Strings.BuilderK
import Derived.KernelRfl
namespace Go.Proofs.YtamefbpdnblbdaaGreatDoor
open Go.Shelf
def ixByte_ren : Go.Shelf.Ren := ⟨fun | 137 => 204 | 217 => 213 | 266 => 215 | n => n, fun | 9 => 9 | 5 => 5 | 3 => 3 | n => n, fun | n => n⟩
theorem ixByte_lays : Go.Proofs.Lays.n137 Tryz.prog ixByte_ren :=
  {
    mixed := by kernel_rfl,
    f137 := Tryz.func204.trans (congrArg some (by kernel_rfl)),
    f217 := Tryz.func213.trans (congrArg some (by kernel_rfl)),
    f266 := Tryz.func215.trans (congrArg some (by kernel_rfl)),
    t3 := Tryz.underlying3,
    a3 := Tryz.isAgg3,
    z3 := Tryz.sizeOf3,
    v3 := Tryz.zeroValue3,
    t5 := Tryz.underlying5,
    a5 := Tryz.isAgg5,
    z5 := Tryz.sizeOf5,
    v5 := Tryz.zeroValue5,
    t9 := Tryz.underlying9,
    a9 := Tryz.isAgg9,
    z9 := Tryz.sizeOf9,
    v9 := Tryz.zeroValue9
  }
def hasPre_ren : Go.Shelf.Ren := ⟨fun | 116 => 150 | 115 => 174 | n => n, fun | 37 => 96 | 4 => 4 | 3 => 3 | 9 => 9 | 5 => 5 | n => n, fun | n => n⟩
theorem hasPre_lays : Go.Proofs.Lays.nb116 Tryz.prog hasPre_ren :=
  {
    mixed := by kernel_rfl,
    f115 := Tryz.func174.trans (congrArg some (by kernel_rfl)),
    f116 := Tryz.func150.trans (congrArg some (by kernel_rfl)),
    t3 := Tryz.underlying3,
    a3 := Tryz.isAgg3,
    z3 := Tryz.sizeOf3,
    v3 := Tryz.zeroValue3,
    t4 := Tryz.underlying4,
    a4 := Tryz.isAgg4,
    z4 := Tryz.sizeOf4,
    v4 := Tryz.zeroValue4,
    t9 := Tryz.underlying9,
    a9 := Tryz.isAgg9,
    z9 := Tryz.sizeOf9,
    v9 := Tryz.zeroValue9,
    t37 := Tryz.underlying96,
    a37 := Tryz.isAgg96,
    z37 := Tryz.sizeOf96,
    v37 := Tryz.zeroValue96,
    t5 := Tryz.underlying5,
    a5 := Tryz.isAgg5,
    z5 := Tryz.sizeOf5,
    v5 := Tryz.zeroValue5
  }
def trimL_ren : Go.Shelf.Ren := ⟨fun | 8 => 82 | 9 => 126 | 11 => 127 | 12 => 128 | 14 => 129 | 16 => 162 | 17 => 163 | 18 => 164 | 20 => 184 | n => n, fun | 22 => 96 | 9 => 9 | 3 => 3 | 4 => 4 | 5 => 5 | 28 => 169 | 27 => 168 | 0 => 0 | 31 => 172 | 33 => 203 | 21 => 21 | 36 => 234 | 37 => 155 | 40 => 237 | 39 => 236 | n => n, fun | 0 => 0 | 1 => 1 | n => n⟩
theorem trimL_lays : Go.Proofs.SlLaysV.n8 Tryz.prog trimL_ren :=
  {
    mixed := by kernel_rfl,
    f8 := Tryz.func82.trans (congrArg some (by kernel_rfl)),
    f9 := Tryz.func126.trans (congrArg some (by kernel_rfl)),
    f11 := Tryz.func127.trans (congrArg some (by kernel_rfl)),
    f12 := Tryz.func128.trans (congrArg some (by kernel_rfl)),
    f14 := Tryz.func129.trans (congrArg some (by kernel_rfl)),
    f16 := Tryz.func162.trans (congrArg some (by kernel_rfl)),
    f17 := Tryz.func163.trans (congrArg some (by kernel_rfl)),
    f18 := Tryz.func164.trans (congrArg some (by kernel_rfl)),
    f20 := Tryz.func184.trans (congrArg some (by kernel_rfl)),
    t0 := Tryz.underlying0,
    a0 := Tryz.isAgg0,
    z0 := Tryz.sizeOf0,
    v0 := Tryz.zeroValue0,
    t3 := Tryz.underlying3,
    a3 := Tryz.isAgg3,
    z3 := Tryz.sizeOf3,
    v3 := Tryz.zeroValue3,
    t4 := Tryz.underlying4,
    a4 := Tryz.isAgg4,
    z4 := Tryz.sizeOf4,
    v4 := Tryz.zeroValue4,
    t5 := Tryz.underlying5,
    a5 := Tryz.isAgg5,
    z5 := Tryz.sizeOf5,
    v5 := Tryz.zeroValue5,
    t9 := Tryz.underlying9,
    a9 := Tryz.isAgg9,
    z9 := Tryz.sizeOf9,
    v9 := Tryz.zeroValue9,
    t21 := Tryz.underlying21,
    a21 := Tryz.isAgg21,
    z21 := Tryz.sizeOf21,
    v21 := Tryz.zeroValue21,
    t22 := Tryz.underlying96,
    a22 := Tryz.isAgg96,
    z22 := Tryz.sizeOf96,
    v22 := Tryz.zeroValue96,
    t27 := Tryz.underlying168,
    a27 := Tryz.isAgg168,
    z27 := Tryz.sizeOf168,
    t28 := Tryz.underlying169,
    a28 := Tryz.isAgg169,
    z28 := Tryz.sizeOf169,
    v28 := Tryz.zeroValue169,
    t31 := Tryz.underlying172,
    a31 := Tryz.isAgg172,
    z31 := Tryz.sizeOf172,
    v31 := Tryz.zeroValue172,
    t33 := Tryz.underlying203,
    a33 := Tryz.isAgg203,
    z33 := Tryz.sizeOf203,
    v33 := Tryz.zeroValue203,
    t36 := Tryz.underlying234,
    a36 := Tryz.isAgg234,
    z36 := Tryz.sizeOf234,
    t37 := Tryz.underlying155,
    a37 := Tryz.isAgg155,
    z37 := Tryz.sizeOf155,
    v37 := Tryz.zeroValue155,
    t39 := Tryz.underlying236,
    a39 := Tryz.isAgg236,
    z39 := Tryz.sizeOf236,
    v39 := Tryz.zeroValue236,
    t40 := Tryz.underlying237,
    a40 := Tryz.isAgg237,
    z40 := Tryz.sizeOf237,
    v40 := Tryz.zeroValue237
  }
end Go.Proofs.YtamefbpdnblbdaaGreatDoor


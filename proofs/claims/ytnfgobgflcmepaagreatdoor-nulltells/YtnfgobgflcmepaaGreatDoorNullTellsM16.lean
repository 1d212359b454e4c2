/- Parts of the proof of NullTells that stand ahead of it (16: TkLay). -/
import Derived.Test.YtnfgobgflcmepaaGreatDoorChecked
import Derived.Shelf.Small.Strs
import Derived.Shelf.Bytes.SlSmallAll
import Derived.Shelf.Bytes.SlTrim
import Derived.Shelf.Strings.BuilderK
import Derived.KernelRfl
set_option linter.unusedVariables false
set_option linter.unusedSimpArgs false
set_option maxRecDepth 20000
set_option maxHeartbeats 16000000
namespace Go.Proofs.YtnfgobgflcmepaaGreatDoor
open Go.Shelf
def ixByte_ren : Go.Shelf.Ren := ⟨fun | 137 => 241 | 217 => 250 | 266 => 252 | n => n, fun | 9 => 9 | 5 => 5 | 3 => 3 | n => n, fun | n => n⟩
theorem ixByte_lays : Go.Proofs.Lays.n137 Tryz.prog ixByte_ren :=
 {
  mixed := by kernel_rfl,
  f137 := Tryz.func241.trans (congrArg some (by kernel_rfl)),
  f217 := Tryz.func250.trans (congrArg some (by kernel_rfl)),
  f266 := Tryz.func252.trans (congrArg some (by kernel_rfl)),
  t3 := Tryz.underlying3,
  a3 := Tryz.isAgg3,
  z3 := Tryz.sizeOf3,
  v3 := Tryz.zeroValue3,
  t5 := Tryz.underlying5,
  a5 := Tryz.isAgg5,
  z5 := Tryz.sizeOf5,
  v5 := Tryz.zeroValue5,
  t9 := Tryz.underlying9,
  a9 := Tryz.isAgg9,
  z9 := Tryz.sizeOf9,
  v9 := Tryz.zeroValue9
 }
def hasPre_ren : Go.Shelf.Ren := ⟨fun | 116 => 187 | 115 => 211 | n => n, fun | 37 => 119 | 4 => 4 | 3 => 3 | 9 => 9 | 5 => 5 | n => n, fun | n => n⟩
theorem hasPre_lays : Go.Proofs.Lays.nb116 Tryz.prog hasPre_ren :=
 {
  mixed := by kernel_rfl,
  f115 := Tryz.func211.trans (congrArg some (by kernel_rfl)),
  f116 := Tryz.func187.trans (congrArg some (by kernel_rfl)),
  t3 := Tryz.underlying3,
  a3 := Tryz.isAgg3,
  z3 := Tryz.sizeOf3,
  v3 := Tryz.zeroValue3,
  t4 := Tryz.underlying4,
  a4 := Tryz.isAgg4,
  z4 := Tryz.sizeOf4,
  v4 := Tryz.zeroValue4,
  t9 := Tryz.underlying9,
  a9 := Tryz.isAgg9,
  z9 := Tryz.sizeOf9,
  v9 := Tryz.zeroValue9,
  t37 := Tryz.underlying119,
  a37 := Tryz.isAgg119,
  z37 := Tryz.sizeOf119,
  v37 := Tryz.zeroValue119,
  t5 := Tryz.underlying5,
  a5 := Tryz.isAgg5,
  z5 := Tryz.sizeOf5,
  v5 := Tryz.zeroValue5
 }
def trimL_ren : Go.Shelf.Ren := ⟨fun | 8 => 111 | 9 => 161 | 11 => 162 | 12 => 163 | 14 => 164 | 16 => 199 | 17 => 200 | 18 => 201 | 20 => 221 | n => n, fun | 22 => 119 | 9 => 9 | 3 => 3 | 4 => 4 | 5 => 5 | 28 => 202 | 27 => 201 | 0 => 0 | 31 => 205 | 33 => 238 | 21 => 21 | 36 => 269 | 37 => 183 | 40 => 272 | 39 => 271 | n => n, fun | 0 => 0 | 1 => 1 | n => n⟩
theorem trimL_lays : Go.Proofs.SlLaysV.n8 Tryz.prog trimL_ren :=
 {
  mixed := by kernel_rfl,
  f8 := Tryz.func111.trans (congrArg some (by kernel_rfl)),
  f9 := Tryz.func161.trans (congrArg some (by kernel_rfl)),
  f11 := Tryz.func162.trans (congrArg some (by kernel_rfl)),
  f12 := Tryz.func163.trans (congrArg some (by kernel_rfl)),
  f14 := Tryz.func164.trans (congrArg some (by kernel_rfl)),
  f16 := Tryz.func199.trans (congrArg some (by kernel_rfl)),
  f17 := Tryz.func200.trans (congrArg some (by kernel_rfl)),
  f18 := Tryz.func201.trans (congrArg some (by kernel_rfl)),
  f20 := Tryz.func221.trans (congrArg some (by kernel_rfl)),
  t0 := Tryz.underlying0,
  a0 := Tryz.isAgg0,
  z0 := Tryz.sizeOf0,
  v0 := Tryz.zeroValue0,
  t3 := Tryz.underlying3,
  a3 := Tryz.isAgg3,
  z3 := Tryz.sizeOf3,
  v3 := Tryz.zeroValue3,
  t4 := Tryz.underlying4,
  a4 := Tryz.isAgg4,
  z4 := Tryz.sizeOf4,
  v4 := Tryz.zeroValue4,
  t5 := Tryz.underlying5,
  a5 := Tryz.isAgg5,
  z5 := Tryz.sizeOf5,
  v5 := Tryz.zeroValue5,
  t9 := Tryz.underlying9,
  a9 := Tryz.isAgg9,
  z9 := Tryz.sizeOf9,
  v9 := Tryz.zeroValue9,
  t21 := Tryz.underlying21,
  a21 := Tryz.isAgg21,
  z21 := Tryz.sizeOf21,
  v21 := Tryz.zeroValue21,
  t22 := Tryz.underlying119,
  a22 := Tryz.isAgg119,
  z22 := Tryz.sizeOf119,
  v22 := Tryz.zeroValue119,
  t27 := Tryz.underlying201,
  a27 := Tryz.isAgg201,
  z27 := Tryz.sizeOf201,
  t28 := Tryz.underlying202,
  a28 := Tryz.isAgg202,
  z28 := Tryz.sizeOf202,
  v28 := Tryz.zeroValue202,
  t31 := Tryz.underlying205,
  a31 := Tryz.isAgg205,
  z31 := Tryz.sizeOf205,
  v31 := Tryz.zeroValue205,
  t33 := Tryz.underlying238,
  a33 := Tryz.isAgg238,
  z33 := Tryz.sizeOf238,
  v33 := Tryz.zeroValue238,
  t36 := Tryz.underlying269,
  a36 := Tryz.isAgg269,
  z36 := Tryz.sizeOf269,
  t37 := Tryz.underlying183,
  a37 := Tryz.isAgg183,
  z37 := Tryz.sizeOf183,
  v37 := Tryz.zeroValue183,
  t39 := Tryz.underlying271,
  a39 := Tryz.isAgg271,
  z39 := Tryz.sizeOf271,
  v39 := Tryz.zeroValue271,
  t40 := Tryz.underlying272,
  a40 := Tryz.isAgg272,
  z40 := Tryz.sizeOf272,
  v40 := Tryz.zeroValue272
 }
end Go.Proofs.YtnfgobgflcmepaaGreatDoor

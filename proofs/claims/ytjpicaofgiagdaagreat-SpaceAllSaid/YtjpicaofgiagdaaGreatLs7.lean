/-
  Contracts of the shelf, laid over this seat: the tables of numbers and the fields, each by the kernel.
-/
import Derived.Shelf.SlIterI.Nil
import Derived.Shelf.SlMaps.Clone
import Derived.Test.YtjpicaofgiagdaaGreatProg
namespace Go.Proofs.YtjpicaofgiagdaaGreat
open Go.Shelf
def keysT_ren : Go.Shelf.Ren := ⟨fun | 7 => 168 | 10 => 237 | n => n, fun | 23 => 169 | 26 => 3 | 3 => 265 | 28 => 273 | 0 => 0 | 27 => 272 | 33 => 156 | 4 => 4 | n => n, fun | n => n⟩
theorem keysT : Go.Proofs.SlLaysZI.n7 Tryz.prog keysT_ren := {
  mixed := by kernel_rfl
  f7 := ⟨Tryz.f168.name, by decide, Tryz.func168.trans (congrArg some (by kernel_rfl))⟩
  f10 := ⟨Tryz.f237.name, by decide, Tryz.func237.trans (congrArg some (by kernel_rfl))⟩
  t0 := Tryz.underlying0
  a0 := Tryz.isAgg0
  z0 := Tryz.sizeOf0
  v0 := Tryz.zeroValue0
  t4 := Tryz.underlying4
  a4 := Tryz.isAgg4
  z4 := Tryz.sizeOf4
  v4 := Tryz.zeroValue4
  t23 := Tryz.underlying169
  a23 := Tryz.isAgg169
  z23 := Tryz.sizeOf169
  v23 := Tryz.zeroValue169
  t26 := Tryz.underlying3
  a26 := Tryz.isAgg3
  z26 := Tryz.sizeOf3
  v26 := Tryz.zeroValue3
  t27 := Tryz.underlying272
  a27 := Tryz.isAgg272
  z27 := Tryz.sizeOf272
  v27 := Tryz.zeroValue272
  t28 := Tryz.underlying273
  a28 := Tryz.isAgg273
  z28 := Tryz.sizeOf273
  v28 := Tryz.zeroValue273
  t33 := Tryz.underlying156
  a33 := Tryz.isAgg156
  z33 := Tryz.sizeOf156
  v33 := Tryz.zeroValue156 }
def cloneT_ren : Go.Shelf.Ren := ⟨fun | 5 => 161 | 7 => 232 | n => n, fun | 23 => 169 | 25 => 3 | 3 => 265 | 4 => 4 | 20 => 20 | n => n, fun | n => n⟩
theorem cloneT : Go.Proofs.SlLaysW.n5 Tryz.prog cloneT_ren := {
  mixed := by kernel_rfl
  f5 := ⟨Tryz.f161.name, by decide, Tryz.func161.trans (congrArg some (by kernel_rfl))⟩
  f7 := Tryz.func232.trans (congrArg some (by kernel_rfl))
  t4 := Tryz.underlying4
  a4 := Tryz.isAgg4
  z4 := Tryz.sizeOf4
  v4 := Tryz.zeroValue4
  t20 := Tryz.underlying20
  a20 := Tryz.isAgg20
  z20 := Tryz.sizeOf20
  v20 := Tryz.zeroValue20
  t23 := Tryz.underlying169
  a23 := Tryz.isAgg169
  z23 := Tryz.sizeOf169
  v23 := Tryz.zeroValue169 }
end Go.Proofs.YtjpicaofgiagdaaGreat

/- slices.insertionSortCmpFunc, laid over this seat's translation by the kit's command, in plain words. -/
import Derived.Shelf.SlSortCmp.InsertionK
import Derived.Ground.SlsfProg
import Derived.Test.YtbhhkaaidhapbaaProg
namespace Go.Proofs
open Go.Shelf
def Try.insRt_ren : Go.Shelf.Ren := ⟨fun | 20 => 39 | n => n, fun | 24 => 25 | 22 => 22 | 3 => 3 | 25 => 31 | 4 => 4 | 0 => 0 | n => n, fun | n => n⟩
theorem Try.insRt : Go.Proofs.SlLaysF0.n20 Try.prog Try.insRt_ren := {
  mixed := by kernel_rfl
  f20 := ⟨Try.f39.name, by decide, Try.func39.trans (congrArg some (by kernel_rfl))⟩
  t0 := Try.underlying0
  a0 := Try.isAgg0
  z0 := Try.sizeOf0
  v0 := Try.zeroValue0
  t3 := Try.underlying3
  a3 := Try.isAgg3
  z3 := Try.sizeOf3
  v3 := Try.zeroValue3
  t4 := Try.underlying4
  a4 := Try.isAgg4
  z4 := Try.sizeOf4
  v4 := Try.zeroValue4
  t22 := Try.underlying22
  a22 := Try.isAgg22
  z22 := Try.sizeOf22
  v22 := Try.zeroValue22
  t25 := Try.underlying31
  a25 := Try.isAgg31
  z25 := Try.sizeOf31
  v25 := Try.zeroValue31 }
end Go.Proofs

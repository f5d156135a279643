/-
  sort.Search and math/bits.Mul64 at this translation, by the library's contracts.
-/
import Derived.Shelf.SlSorted.Search
import Derived.Shelf.Bits.Mul64
import Derived.Test.YtdcjgeebkinjlaaProg
namespace Go.Proofs
open Go.Shelf
def Try.searchL_ren : Go.Shelf.Ren := ⟨fun | 16 => 38 | n => n, fun | 3 => 3 | 4 => 4 | 35 => 72 | 38 => 77 | n => n, fun | n => n⟩
theorem Try.searchL : Go.Proofs.SlLaysO.n16 Try.prog Try.searchL_ren := {
  mixed := by kernel_rfl
  f16 := Try.func38.trans (congrArg some (by kernel_rfl))
  t3 := Try.underlying3
  a3 := Try.isAgg3
  z3 := Try.sizeOf3
  v3 := Try.zeroValue3
  t4 := Try.underlying4
  a4 := Try.isAgg4
  z4 := Try.sizeOf4
  v4 := Try.zeroValue4
  t35 := Try.underlying72
  a35 := Try.isAgg72
  z35 := Try.sizeOf72
  v35 := Try.zeroValue72
  t38 := Try.underlying77
  a38 := Try.isAgg77
  z38 := Try.sizeOf77
  v38 := Try.zeroValue77 }
def Try.mulL_ren : Go.Shelf.Ren := ⟨fun | 264 => 42 | n => n, fun | 46 => 77 | 53 => 74 | n => n, fun | n => n⟩
theorem Try.mulL : Go.Proofs.Lays.n264 Try.prog Try.mulL_ren := {
  mixed := by kernel_rfl
  f264 := Try.func42.trans (congrArg some (by kernel_rfl))
  t46 := Try.underlying77
  a46 := Try.isAgg77
  z46 := Try.sizeOf77
  v46 := Try.zeroValue77
  t53 := Try.underlying74
  a53 := Try.isAgg74
  z53 := Try.sizeOf74
  v53 := Try.zeroValue74 }
end Go.Proofs

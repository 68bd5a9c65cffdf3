/-
  Contracts of Go's library, laid at this translation by the kit's own program (lay-shelf.mjs, lay-plain.mjs); only those that the seat's proofs use.
-/
import Derived.Shelf.Bits.Mul64
import Derived.Shelf.Lays
import Derived.Test.YtcendcegmhliaaaProg
namespace Go.Proofs
open Go.Shelf Go.Lib
def Try.lays264_ren : Go.Shelf.Ren := ⟨fun | 264 => 61 | n => n, fun | 53 => 23 | 46 => 85 | n => n, fun | n => n⟩
theorem Try.lays264 : Go.Proofs.Lays.n264 Try.prog Try.lays264_ren := {
  mixed := by kernel_rfl
  f264 := Try.func61.trans (congrArg some (by kernel_rfl))
  t46 := Try.underlying85
  a46 := Try.isAgg85
  z46 := Try.sizeOf85
  v46 := Try.zeroValue85
  t53 := Try.underlying23
  a53 := Try.isAgg23
  z53 := Try.sizeOf23
  v53 := Try.zeroValue23 }
end Go.Proofs

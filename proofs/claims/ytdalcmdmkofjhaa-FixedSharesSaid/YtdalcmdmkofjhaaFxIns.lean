/- The library's insertion sort on a range, as this program bears it: the shelf's contract laid at this program's numbers. -/
import Derived.Test.YtdalcmdmkofjhaaChecked
import Derived.Shelf.SlSortCmp.Insertion1
namespace Go.Proofs.Ytdalcmdmkofjhaa
open Go.Shelf
def insRen : Ren := ⟨fun | 20 => 33 | n => n, fun | 24 => 3 | 22 => 30 | 3 => 3 | 25 => 22 | 4 => 4 | 0 => 0 | n => n, fun n => n⟩
theorem insLaid : SlLaysF.n20 Try.prog insRen := {
  mixed := by kernel_rfl
  f20 := ⟨Try.f33.name, by decide, Try.func33.trans (by kernel_rfl)⟩
  t0 := Try.underlying0
  a0 := Try.isAgg0
  z0 := Try.sizeOf0
  v0 := Try.zeroValue0
  t3 := Try.underlying3
  a3 := Try.isAgg3
  z3 := Try.sizeOf3
  v3 := Try.zeroValue3
  t4 := Try.underlying4
  a4 := Try.isAgg4
  z4 := Try.sizeOf4
  v4 := Try.zeroValue4
  t22 := Try.underlying30
  a22 := Try.isAgg30
  z22 := Try.sizeOf30
  v22 := Try.zeroValue30
  a24 := Try.isAgg3
  z24 := Try.sizeOf3
  t25 := Try.underlying22
  a25 := Try.isAgg22
  z25 := Try.sizeOf22
  v25 := Try.zeroValue22 }
end Go.Proofs.Ytdalcmdmkofjhaa

/- The library's insertion sort on a range, as this program bears it: the shelf's contract laid at this program's numbers. -/
import Derived.Test.YtjaapdkhjgolfaaChecked
import Derived.Shelf.SlSortCmp.Insertion1
namespace Go.Proofs.Ytjaapdkhjgolfaa
open Go.Shelf
def insRen : Ren := ⟨fun | 20 => 64 | n => n, fun | 24 => 3 | 22 => 23 | 3 => 3 | 25 => 51 | 4 => 4 | 0 => 0 | n => n, fun n => n⟩
theorem insLaid : SlLaysF.n20 Try.prog insRen := {
  mixed := by kernel_rfl
  f20 := ⟨Try.f64.name, by decide, Try.func64.trans (by kernel_rfl)⟩
  t0 := Try.underlying0
  a0 := Try.isAgg0
  z0 := Try.sizeOf0
  v0 := Try.zeroValue0
  t3 := Try.underlying3
  a3 := Try.isAgg3
  z3 := Try.sizeOf3
  v3 := Try.zeroValue3
  t4 := Try.underlying4
  a4 := Try.isAgg4
  z4 := Try.sizeOf4
  v4 := Try.zeroValue4
  t22 := Try.underlying23
  a22 := Try.isAgg23
  z22 := Try.sizeOf23
  v22 := Try.zeroValue23
  a24 := Try.isAgg3
  z24 := Try.sizeOf3
  t25 := Try.underlying51
  a25 := Try.isAgg51
  z25 := Try.sizeOf51
  v25 := Try.zeroValue51 }
end Go.Proofs.Ytjaapdkhjgolfaa

/- What the library's in-place merge makes of a single element and a sorted part, either way round; the row is memory of the call's own, the comparison is a function that only reads. -/
import Derived.Test.YtbmkamnjjfmdiaaFxPick
namespace Go.Proofs.Ytbmkamnjjfmdiaa
open Go.Shelf Go.RowKit Go.Lib Go.Sort Go.Proofs
variable {α : Type} [Inhabited α]

/-- The row's world, as the steps of the sort need it. -/
structure Sorts (enc : α → Value) (cf : α → α → Int) (g : Nat) (cb : Array Value) (blk off : Nat) (d0 : Array α) (w0 : World) : Prop where
  eg : ∀ args w, (callFunc g args).run Try.prog w = .ok (.enter g args) w
  hcmp : CmpLays1 Try.prog g cb enc cf blk off d0.size w0
  R : Row1 enc w0 blk off d0
  hsz : d0.size < 1152921504606846976

end Go.Proofs.Ytbmkamnjjfmdiaa

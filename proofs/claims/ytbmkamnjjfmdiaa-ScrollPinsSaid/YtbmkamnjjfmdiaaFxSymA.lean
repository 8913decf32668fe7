/- What the library's in-place merge makes of two sorted parts; the row is memory of the call's own, the comparison is a function that only reads. -/
import Derived.Test.YtbmkamnjjfmdiaaFxSymR
namespace Go.Proofs.Ytbmkamnjjfmdiaa
open Go.Shelf Go.RowKit Go.Lib Go.Sort Go.Proofs
variable {α : Type} [Inhabited α]

/-- What one call of the merge makes of the row. -/
def Merges (enc : α → Value) (ls : α → α → Bool) (w0 : World) (blk off a b : Nat) (d : Array α) (w' : World) : Prop := ∃ e : Array α, PermI a b d e ∧ SortedIn ls a b e ∧ SW enc w0 blk off e w'

end Go.Proofs.Ytbmkamnjjfmdiaa

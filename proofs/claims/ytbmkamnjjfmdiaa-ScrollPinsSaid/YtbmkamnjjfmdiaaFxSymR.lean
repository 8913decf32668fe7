/- What the library's in-place merge makes of a sorted part and a single element behind it; the row is memory of the call's own, the comparison is a function that only reads. -/
import Derived.Test.YtbmkamnjjfmdiaaFxSymL
namespace Go.Proofs.Ytbmkamnjjfmdiaa
open Go.Shelf Go.RowKit Go.Lib Go.Sort Go.Proofs
variable {α : Type} [Inhabited α]

end Go.Proofs.Ytbmkamnjjfmdiaa

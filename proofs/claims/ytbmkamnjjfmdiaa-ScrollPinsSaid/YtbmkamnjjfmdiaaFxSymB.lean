/- What the library's in-place merge makes of two sorted parts; the row is memory of the call's own, the comparison is a function that only reads. -/
import Derived.Test.YtbmkamnjjfmdiaaFxSymA
namespace Go.Proofs.Ytbmkamnjjfmdiaa
open Go.Shelf Go.RowKit Go.Lib Go.Sort Go.Proofs
variable {α : Type} [Inhabited α]

end Go.Proofs.Ytbmkamnjjfmdiaa

/- The references' comparison of two lists returns true where they are equal; no condition. -/
import Derived.Test.YtbmkamnjjfmdiaaFxShare
namespace Go.Proofs.Ytbmkamnjjfmdiaa
open Go.RowKit

theorem Reads.drewN {w : World} {p : Option Addr} {n : Nat} {f : Nat → Int} (h : Reads w p n f) (k : Nat) : Reads (w.drewN k) p n f := h

end Go.Proofs.Ytbmkamnjjfmdiaa

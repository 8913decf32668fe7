/- Rows of structs in old memory; no condition. -/
import Derived.Test.YtbmkamnjjfmdiaaGeBase
namespace Go.Proofs.Ytbmkamnjjfmdiaa
open Go.RowKit Go.Sort
/-- A row of structs of k cells. -/
def SRow (W : World) (p : Option Addr) (n k : Nat) (f : Nat → Nat → Value) : Prop := 0 < n → ∃ b off, p = some ⟨b, off, none⟩ ∧ b < W.heap.size ∧ ∀ i, i < n → ∀ j, j < k → W.cell? ⟨b, off + i * k + j, none⟩ = some (f i j)
theorem SRow.grew {w w' : World} {p : Option Addr} {n k : Nat} {f : Nat → Nat → Value} (h : SRow w p n k f) (g : Grew w w') : SRow w' p n k f := fun hn => by
  obtain ⟨b, off, hp, hb, hc⟩ := h hn
  exact ⟨b, off, hp, Nat.lt_of_lt_of_le hb g.size, fun i hi j hj => (g.1.cell (p := ⟨b, off + i * k + j, none⟩) hb).trans (hc i hi j hj)⟩
theorem SRow.below {w w' : World} {p : Option Addr} {n k : Nat} {f : Nat → Nat → Value} (h : SRow w p n k f) (g : Below w.heap.size w w') : SRow w' p n k f := fun hn => by
  obtain ⟨b, off, hp, hb, hc⟩ := h hn
  exact ⟨b, off, hp, Nat.lt_of_lt_of_le hb g.size, fun i hi j hj => (g.cell (p := ⟨b, off + i * k + j, none⟩) hb).trans (hc i hi j hj)⟩
end Go.Proofs.Ytbmkamnjjfmdiaa

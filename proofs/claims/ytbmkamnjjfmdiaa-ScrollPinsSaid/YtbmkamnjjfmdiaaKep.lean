/- All old blocks but one are as they were; no condition. -/
import Derived.Test.YtbmkamnjjfmdiaaGeBase
import Derived.Test.YtbmkamnjjfmdiaaFxStable
namespace Go.Proofs.Ytbmkamnjjfmdiaa
open Go.RowKit Go.Sort
set_option linter.unusedVariables false
set_option linter.unusedSimpArgs false

/-- All old blocks but one are as they were. -/
structure Kept (sb : Nat) (w w' : World) : Prop where
  os : w'.os = w.os
  tape : w'.tape = w.tape
  output : w'.output = w.output
  size : w.heap.size ≤ w'.heap.size
  block : ∀ k, k < w.heap.size → k ≠ sb → w'.heap[k]? = w.heap[k]?
section
variable {sb b n : Nat} {w w' w'' : World} {f : Nat → Int}
theorem Kept.refl (sb : Nat) (w : World) : Kept sb w w := ⟨rfl, rfl, rfl, Nat.le_refl _, fun _ _ _ => rfl⟩
theorem Kept.of (h : Below w.heap.size w w') : Kept sb w w' := ⟨h.os, h.tape, h.output, h.size, fun k hk _ => h.block k hk⟩
theorem Kept.trans (h : Kept sb w w') (k : Kept sb w' w'') : Kept sb w w'' := ⟨k.os.trans h.os, k.tape.trans h.tape, k.output.trans h.output, Nat.le_trans h.size k.size, fun i hi hn => (k.block i (Nat.lt_of_lt_of_le hi h.size) hn).trans (h.block i hi hn)⟩
theorem Kept.then (h : Kept sb w w') (k : Below w'.heap.size w' w'') : Kept sb w w'' := h.trans (Kept.of k)
theorem Kept.below {B : Nat} (h : Kept sb w w') (h1 : B ≤ sb) (h2 : B ≤ w.heap.size) : Below B w w' := ⟨h.os, h.tape, h.output, h.size, fun k hk => h.block k (by omega) (by omega)⟩
theorem Kept.set (h : Kept sb w w') (i : Nat) (v : Value) : Kept sb w (w'.setCell ⟨sb, i, none⟩ v) :=
  ⟨h.os, h.tape, h.output, by rw [show (w'.setCell ⟨sb, i, none⟩ v).heap.size = w'.heap.size by simp [World.setCell]]; exact h.size, fun k hk hn => (heap_setCell_other w' ⟨sb, i, none⟩ k v hn).trans (h.block k hk hn)⟩
theorem IRow.kept (h : IRow w b n f) (hk : Kept sb w w') (hn : b ≠ sb) : IRow w' b n f := (hk.block b h.lt hn).trans h
theorem Blk.kept {T : TypeId} {vs : List Value} (h : Blk w b T vs) (hk : Kept sb w w') (hn : b ≠ sb) : Blk w' b T vs := (hk.block b h.lt hn).trans h
theorem Kept.drewN (h : Kept sb w w') (k : Nat) : Kept sb w (w'.drewN k) := ⟨h.os, h.tape, h.output, h.size, h.block⟩
end
end Go.Proofs.Ytbmkamnjjfmdiaa

/- Rows whose first cells are integers, and worlds in which one block alone may have been written; no condition. -/
import Derived.Test.YtfiaongnogiegaaBdBase
namespace Go.Proofs.Ytfiaongnogiegaa
open Go.RowKit Go.Sort
set_option linter.unusedVariables false

/-- Block b begins with n integers; it has c cells and may be written. -/
def CRow (w : World) (b c n : Nat) (f : Nat → Int) : Prop := ∃ cur : Array Value, w.heap[b]? = some (.cells cur 3 (0, 0)) ∧ cur.size = c ∧ n ≤ c ∧ ∀ k, k < n → cur[k]? = some (.int .i64 (f k))
section
variable {w w' : World} {b c n : Nat} {f : Nat → Int}
theorem CRow.lt (h : CRow w b c n f) : b < w.heap.size := by obtain ⟨cur, h1, _⟩ := h; exact (Array.getElem?_eq_some_iff.1 h1).1
theorem CRow.cell (h : CRow w b c n f) {i : Nat} (hi : i < n) : w.cell? ⟨b, i, none⟩ = some (.int .i64 (f i)) := by
  obtain ⟨cur, h1, h2, h3, h4⟩ := h
  rw [cell_of_row w b i _ 3 (0, 0) h1]; exact h4 i hi
theorem CRow.frozen (h : CRow w b c n f) (i : Nat) : w.frozen? ⟨b, i, none⟩ = false := by
  obtain ⟨cur, h1, _⟩ := h; simp [World.frozen?, h1]
theorem CRow.same (h : CRow w b c n f) (g : w'.heap[b]? = w.heap[b]?) : CRow w' b c n f := by obtain ⟨cur, h1, h2⟩ := h; exact ⟨cur, g.trans h1, h2⟩
theorem CRow.set_ (h : CRow w b c n f) {i : Nat} (hi : i < n) (v : Int) : CRow (w.setCell ⟨b, i, none⟩ (.int .i64 v)) b c n (fun j => if j = i then v else f j) := by
  obtain ⟨cur, h1, h2, h3, h4⟩ := h
  refine ⟨cur.setIfInBounds i (.int .i64 v), ?_, by simpa using h2, h3, fun k hk => ?_⟩
  · simp [World.setCell, Array.getElem?_modify, h1]
  · rw [Array.getElem?_setIfInBounds]
    by_cases e : i = k
    · subst e; simp; omega
    · rw [if_neg e, h4 k hk]; show _ = some (Value.int .i64 (if k = i then v else f k)); rw [if_neg (fun h : k = i => e h.symm)]
theorem CRow.congr {g : Nat → Int} (h : CRow w b c n f) (e : ∀ i, i < n → f i = g i) : CRow w b c n g := by
  obtain ⟨cur, h1, h2, h3, h4⟩ := h; exact ⟨cur, h1, h2, h3, fun k hk => by rw [h4 k hk, e k hk]⟩
theorem IRow.crow (h : IRow w b n f) : CRow w b n n f := ⟨_, h, by simp, Nat.le_refl _, fun k hk => ints_get f hk⟩
end

/-- Block b alone of the old ones may have been written. -/
structure But (b : Nat) (w w' : World) : Prop where
  os : w'.os = w.os
  tape : w'.tape = w.tape
  output : w'.output = w.output
  size : w.heap.size ≤ w'.heap.size
  drawn : w.drawn ≤ w'.drawn
  block : ∀ k, k < w.heap.size → k ≠ b → w'.heap[k]? = w.heap[k]?
theorem But.refl (b : Nat) (w : World) : But b w w := ⟨rfl, rfl, rfl, Nat.le_refl _, Nat.le_refl _, fun _ _ _ => rfl⟩
theorem But.trans {b : Nat} {x y z : World} (h : But b x y) (k : But b y z) : But b x z :=
  ⟨k.os.trans h.os, k.tape.trans h.tape, k.output.trans h.output, Nat.le_trans h.size k.size, Nat.le_trans h.drawn k.drawn, fun i hi hb => (k.block i (Nat.lt_of_lt_of_le hi h.size) hb).trans (h.block i hi hb)⟩
theorem But.of_grew {b : Nat} {w w' : World} (h : Grew w w') : But b w w' := ⟨h.1.os, h.1.tape, h.1.output, h.1.size, h.2, fun k hk _ => h.1.block k hk⟩
theorem But.setCell {b : Nat} {x w : World} (h : But b x w) {p : Addr} (hp : p.block = b) (u : Value) : But b x (w.setCell p u) :=
  ⟨h.os, h.tape, h.output, by simpa using h.size, h.drawn, fun k hk hb => (heap_setCell_other w p k u (by omega)).trans (h.block k hk hb)⟩
theorem But.drewN {b : Nat} {x w : World} (h : But b x w) (n : Nat) : But b x (w.drewN n) := ⟨h.os, h.tape, h.output, h.size, Nat.le_trans h.drawn (Nat.le_add_right _ _), h.block⟩
theorem But.drew {b : Nat} {x w : World} (h : But b x w) : But b x w.drew := h.drewN 1
theorem But.alloc {b : Nat} {x w : World} (h : But b x w) (o : Obj) : But b x (w.alloc o) :=
  ⟨h.os, h.tape, h.output, by have := h.size; simp; omega, h.drawn, fun k hk hb => (heap_alloc_old w o (r := k) (Nat.lt_of_lt_of_le hk h.size)).trans (h.block k hk hb)⟩
theorem But.blk {b c : Nat} {w w' : World} {T : TypeId} {vs : List Value} (h : But b w w') (k : Blk w c T vs) (hc : c ≠ b) : Blk w' c T vs := (h.block c k.lt hc).trans k
theorem But.irow {b c n : Nat} {w w' : World} {f : Nat → Int} (h : But b w w') (k : IRow w c n f) (hc : c ≠ b) : IRow w' c n f := (h.block c k.lt hc).trans k
theorem But.crow {b c m n : Nat} {w w' : World} {f : Nat → Int} (h : But b w w') (k : CRow w c m n f) (hc : c ≠ b) : CRow w' c m n f := k.same (h.block c k.lt hc)
theorem But.grew {b : Nat} {x w w' : World} (h : But b w w') (g : Grew x w) (hb : x.heap.size ≤ b) : Grew x w' :=
  g.trans' ⟨rfl, rfl, rfl, rfl, rfl⟩ (fun _ _ => rfl) |>.1 |> fun q => ⟨⟨h.os.trans q.os, h.tape.trans q.tape, h.output.trans q.output, Nat.le_trans q.size h.size, fun k hk => (h.block k (Nat.lt_of_lt_of_le hk q.size) (by omega)).trans (q.block k hk)⟩, Nat.le_trans g.2 h.drawn⟩

end Go.Proofs.Ytfiaongnogiegaa

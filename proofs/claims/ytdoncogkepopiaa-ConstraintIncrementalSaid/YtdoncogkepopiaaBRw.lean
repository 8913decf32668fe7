/- Rows of booleans of the call's own; no condition. -/
import Derived.Test.YtdoncogkepopiaaFxStable
import Derived.Test.YtdoncogkepopiaaSRow
namespace Go.Proofs.Ytdoncogkepopiaa
open Go.RowKit Go.Sort
set_option linter.unusedVariables false
set_option linter.unusedSimpArgs false

def bools (n : Nat) (f : Nat → Bool) : Array Value := Array.ofFn (n := n) fun i => Value.bool (f i)
theorem bools_get {n : Nat} (f : Nat → Bool) {i : Nat} (h : i < n) : (bools n f)[i]? = some (.bool (f i)) := by
  simp [bools, h]
theorem bools_set (n : Nat) (f : Nat → Bool) (i : Nat) (v : Bool) : (bools n f).setIfInBounds i (.bool v) = bools n (fun j => if j = i then v else f j) := by
  apply Array.ext_getElem?
  intro j
  by_cases hj : j < n
  · rw [bools_get _ hj, Array.getElem?_setIfInBounds]
    by_cases e : i = j
    · subst e
      simp [bools, hj]
    · rw [if_neg e, bools_get _ hj, if_neg (fun h => e h.symm)]
  · rw [Array.getElem?_eq_none (by simp [bools]; omega), Array.getElem?_eq_none (by simp [bools]; omega)]
theorem bools_congr {n : Nat} {f g : Nat → Bool} (h : ∀ i, i < n → f i = g i) : bools n f = bools n g := by
  apply Array.ext_getElem?
  intro j
  by_cases hj : j < n
  · rw [bools_get _ hj, bools_get _ hj, h j hj]
  · rw [Array.getElem?_eq_none (by simp [bools]; omega), Array.getElem?_eq_none (by simp [bools]; omega)]
/-- The block b is a row of n booleans, and may be written. -/
def BRow (w : World) (b n : Nat) (f : Nat → Bool) : Prop := w.heap[b]? = some (.cells (bools n f) 4 (0, 0))
section
variable {w w' : World} {b n : Nat} {f : Nat → Bool}
theorem BRow.lt (h : BRow w b n f) : b < w.heap.size := (Array.getElem?_eq_some_iff.1 h).1
theorem BRow.cell (h : BRow w b n f) {i : Nat} (hi : i < n) : w.cell? ⟨b, i, none⟩ = some (.bool (f i)) := by
  rw [cell_of_row w b i _ _ _ h, bools_get f hi]
theorem BRow.frozen (h : BRow w b n f) (i : Nat) : w.frozen? ⟨b, i, none⟩ = false := frozen_of_row w b i _ _ h
theorem BRow.drewN (h : BRow w b n f) (k : Nat) : BRow (w.drewN k) b n f := h
theorem BRow.alloc (h : BRow w b n f) (o : Obj) : BRow (w.alloc o) b n f := (Below.heap_alloc w o b h.lt).trans h
theorem BRow.far (h : BRow w b n f) {p : Addr} (hp : b ≠ p.block) (u : Value) : BRow (w.setCell p u) b n f := (Below.heap_setCell w p u b hp).trans h
theorem BRow.set_ (h : BRow w b n f) (i : Nat) (v : Bool) : BRow (w.setCell ⟨b, i, none⟩ (.bool v)) b n (fun j => if j = i then v else f j) := by
  have := heap_setCell_same w b i (bools n f) 4 (.bool v) h
  unfold BRow
  rw [this, bools_set]
theorem BRow.below {B : Nat} (h : BRow w b n f) (hb : Below B w w') (hg : b < B) : BRow w' b n f := (hb.block b hg).trans h
theorem BRow.congr {g : Nat → Bool} (h : BRow w b n f) (e : ∀ i, i < n → f i = g i) : BRow w b n g := by unfold BRow at h ⊢; rw [h, bools_congr e]
theorem BRow.new (w : World) (n : Nat) (f : Nat → Bool) : BRow (w.alloc (.cells (bools n f) 4)) w.heap.size n f := heap_alloc_new w _
end
theorem falses (n : Nat) : madeCells #[.bool false] n = bools n (fun _ => false) := by
  apply Array.ext
  · simp [madeCells, bools]
  · intro j h1 h2
    simp [madeCells, bools, Nat.mod_one]
theorem info_bool' : (Try.prog.info? 4).map (fun i => (i.zero, i.size, i.bytes)) = some (some (.bool false), 1, 1) := by kernel_rfl
theorem make_bools (n : Nat) (hn : n ≤ 1048576) (w : World) :
    (Instr.makeSlice 23 (.int .i64 (n : Int)) (.int .i64 (n : Int))).run Try.prog w = .ok (.slice (some ⟨w.heap.size, 0, none⟩) n n) (w.alloc (.cells (bools n (fun _ => false)) 4)) := by
  obtain ⟨i, hi, hz0, hz1, hz2⟩ := info_parts info_bool'
  have hr := run_make (P := Try.prog) w 23 4 i _ Try.underlying23 hi hz0 .i64 .i64 n n (by omega) (by omega) (by rw [hz2]; omega) (by omega)
  simp only [Int.toNat_natCast] at hr
  rw [hr, hz1, Nat.mul_one, ← falses]
  rfl

end Go.Proofs.Ytdoncogkepopiaa

/- Rows of integers in memory: slices that come in, and rows of the call's own; what sorting leaves of the rest of memory. No condition. -/
import Derived.Test.YtjaapdkhjgolfaaFxStable
namespace Go.Proofs.Ytjaapdkhjgolfaa
open Go.Shelf Go.RowKit Go.Lib Go.Sort Go.Proofs

/-- The cells of a row of n integers. -/
def ints (n : Nat) (f : Nat → Int) : Array Value := Array.ofFn (n := n) fun i => Value.int .i64 (f i)
@[simp] theorem size_ints (n : Nat) (f : Nat → Int) : (ints n f).size = n := by simp [ints]
theorem ints_get {n : Nat} (f : Nat → Int) {i : Nat} (h : i < n) : (ints n f)[i]? = some (.int .i64 (f i)) := by
  rw [Array.getElem?_eq_getElem (by simpa using h)]; simp [ints]
theorem ints_set (n : Nat) (f : Nat → Int) (i : Nat) (v : Int) : (ints n f).setIfInBounds i (.int .i64 v) = ints n (fun j => if j = i then v else f j) := by
  apply Array.ext_getElem?
  intro j
  rw [Array.getElem?_setIfInBounds]
  by_cases hj : j < n
  · rw [ints_get f hj, ints_get (fun j => if j = i then v else f j) hj]
    by_cases h : i = j
    · subst h; simp [hj]
    · simp only [if_neg h, if_neg (fun e => h (Eq.symm e))]
  · rw [Array.getElem?_eq_none (by simpa using hj), Array.getElem?_eq_none (by simpa using hj)]
    by_cases h : i = j
    · subst h; rw [if_pos rfl, size_ints, if_neg hj]
    · rw [if_neg h]
theorem ints_congr {n : Nat} {f g : Nat → Int} (h : ∀ i, i < n → f i = g i) : ints n f = ints n g := by
  apply Array.ext
  · simp
  · intro j h1 h2
    simp only [ints, Array.getElem_ofFn]
    rw [h j (by simpa using h1)]

/-- Block b is a row of n integers of the call's own. -/
def IRow (w : World) (b n : Nat) (f : Nat → Int) : Prop := w.heap[b]? = some (.cells (ints n f) 3 (0, 0))
section
variable {w w' : World} {b n : Nat} {f : Nat → Int}
theorem IRow.lt (h : IRow w b n f) : b < w.heap.size := by
  rcases Nat.lt_or_ge b w.heap.size with hlt | hge
  · exact hlt
  · unfold IRow at h; rw [Array.getElem?_eq_none hge] at h; cases h
theorem IRow.cell (h : IRow w b n f) {i : Nat} (hi : i < n) : w.cell? ⟨b, i, none⟩ = some (.int .i64 (f i)) := by
  rw [cell_of_row w b i _ 3 (0, 0) h]; exact ints_get f hi
theorem IRow.frozen (h : IRow w b n f) (i : Nat) : w.frozen? ⟨b, i, none⟩ = false := by
  unfold IRow at h; simp [World.frozen?, h]
theorem IRow.drew (h : IRow w b n f) : IRow w.drew b n f := h
theorem IRow.drewN (h : IRow w b n f) (k : Nat) : IRow (w.drewN k) b n f := h
theorem IRow.alloc (h : IRow w b n f) (o : Obj) : IRow (w.alloc o) b n f := (Below.heap_alloc w o b h.lt).trans h
theorem IRow.far (h : IRow w b n f) {p : Addr} (hp : b ≠ p.block) (u : Value) : IRow (w.setCell p u) b n f := (Below.heap_setCell w p u b hp).trans h
theorem IRow.set_ (h : IRow w b n f) (i : Nat) (v : Int) : IRow (w.setCell ⟨b, i, none⟩ (.int .i64 v)) b n (fun j => if j = i then v else f j) := by
  unfold IRow at h ⊢
  simp [World.setCell, Array.getElem?_modify, h, ints_set]
theorem IRow.below {B : Nat} (h : IRow w b n f) (hb : Below B w w') (hg : b < B) : IRow w' b n f := (hb.block b hg).trans h
theorem IRow.congr {g : Nat → Int} (h : IRow w b n f) (e : ∀ i, i < n → f i = g i) : IRow w b n g := by unfold IRow at h ⊢; rw [h, ints_congr e]
theorem IRow.new (w : World) (n : Nat) (f : Nat → Int) : IRow (w.alloc (.cells (ints n f) 3)) w.heap.size n f := heap_alloc_new w _
end

theorem zeros (n : Nat) : madeCells #[.int .i64 0] n = ints n (fun _ => 0) := by
  apply Array.ext
  · simp [madeCells]
  · intro j h1 h2
    simp [madeCells, ints, Nat.mod_one]
theorem info_int : (Try.prog.info? 3).map (fun i => (i.zero, i.size, i.bytes)) = some (some (.int .i64 0), 1, 8) := by kernel_rfl
theorem make_ints (n : Nat) (hn : n ≤ 1048576) (w : World) :
    (Instr.makeSlice 23 (.int .i64 (n : Int)) (.int .i64 (n : Int))).run Try.prog w = .ok (.slice (some ⟨w.heap.size, 0, none⟩) n n) (w.alloc (.cells (ints n (fun _ => 0)) 3)) := by
  obtain ⟨i, hi, hz0, hz1, hz2⟩ := info_parts info_int
  have hr := run_make (P := Try.prog) w 23 3 i _ Try.underlying23 hi hz0 .i64 .i64 n n (by omega) (by omega) (by rw [hz2]; omega) (by omega)
  simp only [Int.toNat_natCast] at hr
  rw [hr, hz1, Nat.mul_one, ← zeros]
  rfl

/-- What is below block B in one world, the sort leaves as it was, where the row lies at B or above. -/
theorem SW.below_ {α : Type} [Inhabited α] {enc : α → Value} {w0 W : World} {blk off : Nat} {dk : Array α} (h : SW enc w0 blk off dk W) (hblk : blk < w0.heap.size) : Below blk w0 W := by
  obtain ⟨n, os, rfl⟩ := h
  unfold sortWorld
  refine ⟨rfl, rfl, rfl, ?_, fun k hk => ?_⟩
  · rw [size_grow, size_putRow]; show w0.heap.size ≤ w0.heap.size + _; omega
  · have hl : k < w0.heap.size := by omega
    rw [heap_grow_old _ _ (by rw [size_putRow]; exact hl)]
    show (w0.heap.modify blk _)[k]? = _
    rw [Array.getElem?_modify, if_neg (by omega)]
theorem sortWorld_cell {α : Type} [Inhabited α] (enc : α → Value) (w0 : World) (blk off n : Nat) (dk : Array α) (os : Array Obj) (a : Addr) (h1 : a.block < w0.heap.size) (h2 : a.block ≠ blk) : (sortWorld enc w0 blk off n dk os).cell? a = w0.cell? a := by
  unfold sortWorld
  rw [cell?_grow _ _ _ (by rw [size_putRow]; exact h1), cell?_putRow_other enc _ blk off _ _ (Or.inl h2)]
  rfl
end Go.Proofs.Ytjaapdkhjgolfaa

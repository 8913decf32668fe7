/- Rows of integers in memory: those that the call makes, those that come in, those that append makes; no condition. -/
import Derived.Test.YtfiaongnogiegaaGeBase
import Derived.ProofKit
import Derived.OwnWalk
import Derived.Deep.LoopGhost
import Derived.Deep.Cut
namespace Go.Proofs.Ytfiaongnogiegaa
open Go.RowKit Go.Sort
set_option linter.unusedVariables false

theorem wrap_in {x : Int} (h : -9223372036854775808 ≤ x ∧ x ≤ 9223372036854775807) : IntKind.i64.wrap x = x := wr h.1 h.2
/-- The cells of a row of n integers. -/
def ints (n : Nat) (f : Nat → Int) : Array Value := Array.ofFn (n := n) fun i => Value.int .i64 (f i)
@[simp] theorem size_ints (n : Nat) (f : Nat → Int) : (ints n f).size = n := by simp [ints]
theorem ints_get {n : Nat} (f : Nat → Int) {i : Nat} (h : i < n) : (ints n f)[i]? = some (.int .i64 (f i)) := by
  rw [Array.getElem?_eq_getElem (by simpa using h)]; simp [ints]
theorem ints_set (n : Nat) (f : Nat → Int) (i : Nat) (v : Int) : (ints n f).setIfInBounds i (.int .i64 v) = ints n (fun j => if j = i then v else f j) := by
  apply Array.ext_getElem?
  intro j
  rw [Array.getElem?_setIfInBounds]
  by_cases hj : j < n
  · rw [ints_get f hj, ints_get (fun j => if j = i then v else f j) hj]
    by_cases h : i = j
    · subst h; simp [hj]
    · simp only [if_neg h, if_neg (fun e => h (Eq.symm e))]
  · rw [Array.getElem?_eq_none (by simpa using hj), Array.getElem?_eq_none (by simpa using hj)]
    by_cases h : i = j
    · subst h; rw [if_pos rfl, size_ints, if_neg hj]
    · rw [if_neg h]
theorem ints_congr {n : Nat} {f g : Nat → Int} (h : ∀ i, i < n → f i = g i) : ints n f = ints n g := by
  apply Array.ext
  · simp
  · intro j h1 h2
    simp only [ints, Array.getElem_ofFn]
    rw [h j (by simpa using h1)]

/-- Block b is a row of n integers of the call's own. -/
def IRow (w : World) (b n : Nat) (f : Nat → Int) : Prop := w.heap[b]? = some (.cells (ints n f) 3 (0, 0))
section
variable {w w' : World} {b n : Nat} {f : Nat → Int}
theorem IRow.lt (h : IRow w b n f) : b < w.heap.size := (Array.getElem?_eq_some_iff.1 h).1
theorem IRow.cell (h : IRow w b n f) {i : Nat} (hi : i < n) : w.cell? ⟨b, i, none⟩ = some (.int .i64 (f i)) := by
  rw [cell_of_row w b i _ 3 (0, 0) h]; exact ints_get f hi
theorem IRow.frozen (h : IRow w b n f) (i : Nat) : w.frozen? ⟨b, i, none⟩ = false := by
  unfold IRow at h; simp [World.frozen?, h]
theorem IRow.drewN (h : IRow w b n f) (k : Nat) : IRow (w.drewN k) b n f := h
theorem IRow.alloc (h : IRow w b n f) (o : Obj) : IRow (w.alloc o) b n f := (heap_alloc_old w o (r := b) h.lt).trans h
theorem IRow.far (h : IRow w b n f) {p : Addr} (hp : b ≠ p.block) (u : Value) : IRow (w.setCell p u) b n f := (heap_setCell_other w p b u hp).trans h
theorem IRow.set_ (h : IRow w b n f) (i : Nat) (v : Int) : IRow (w.setCell ⟨b, i, none⟩ (.int .i64 v)) b n (fun j => if j = i then v else f j) := by
  unfold IRow at h ⊢
  simp [World.setCell, Array.getElem?_modify, h, ints_set]
theorem IRow.congr {g : Nat → Int} (h : IRow w b n f) (e : ∀ i, i < n → f i = g i) : IRow w b n g := by unfold IRow at h ⊢; rw [h, ints_congr e]
theorem IRow.new (w : World) (n : Nat) (f : Nat → Int) : IRow (w.alloc (.cells (ints n f) 3)) w.heap.size n f := heap_alloc_new w _
theorem IRow.grew (h : IRow w b n f) (g : Grew w w') : IRow w' b n f := (g.1.block b h.lt).trans h
theorem IRow.same (h : IRow w b n f) (g : w'.heap[b]? = w.heap[b]?) : IRow w' b n f := g.trans h
end
theorem Blk.same {w w' : World} {b : Nat} {T : TypeId} {vs : List Value} (h : Blk w b T vs) (g : w'.heap[b]? = w.heap[b]?) : Blk w' b T vs := g.trans h

theorem zeros (n : Nat) : madeCells #[.int .i64 0] n = ints n (fun _ => 0) := by
  apply Array.ext
  · simp [madeCells]
  · intro j h1 h2
    simp [madeCells, ints, Nat.mod_one]
theorem info_int : (Try.prog.info? 3).map (fun i => (i.zero, i.size, i.bytes)) = some (some (.int .i64 0), 1, 8) := by kernel_rfl
theorem make_ints (n : Nat) (hn : n ≤ 1048576) (w : World) :
    (Instr.makeSlice 29 (.int .i64 (n : Int)) (.int .i64 (n : Int))).run Try.prog w = .ok (.slice (some ⟨w.heap.size, 0, none⟩) n n) (w.alloc (.cells (ints n (fun _ => 0)) 3)) := by
  obtain ⟨i, hi, hz0, hz1, hz2⟩ := info_parts info_int
  have hr := run_make (P := Try.prog) w 29 3 i _ Try.underlying29 hi hz0 .i64 .i64 n n (by omega) (by omega) (by rw [hz2]; omega) (by omega)
  simp only [Int.toNat_natCast] at hr
  rw [hr, hz1, Nat.mul_one, ← zeros]
  rfl

/-- The slice at p reads as n integers. -/
def Reads (w : World) (p : Option Addr) (n : Nat) (f : Nat → Int) : Prop := 0 < n → ∃ b off, p = some ⟨b, off, none⟩ ∧ ∀ k, k < n → w.cell? ⟨b, off + k, none⟩ = some (.int .i64 (f k))
theorem IRow.reads {w : World} {b n : Nat} {f : Nat → Int} (h : IRow w b n f) : Reads w (some ⟨b, 0, none⟩) n f := fun _ => ⟨b, 0, rfl, fun k hk => by rw [Nat.zero_add]; exact h.cell hk⟩
theorem lt_of_cell {w : World} {b o : Nat} {v : Value} (h : w.cell? ⟨b, o, none⟩ = some v) : b < w.heap.size := by
  rcases Nat.lt_or_ge b w.heap.size with hl | hl
  · exact hl
  · simp [World.cell?, Array.getElem?_eq_none hl] at h
theorem Reads.grew {w w' : World} {p : Option Addr} {n : Nat} {f : Nat → Int} (h : Reads w p n f) (g : Grew w w') : Reads w' p n f := fun hn => by
  obtain ⟨b, off, hp, hc⟩ := h hn
  exact ⟨b, off, hp, fun k hk => (g.1.cell (p := ⟨b, off + k, none⟩) (lt_of_cell (hc k hk))).trans (hc k hk)⟩
/-- The slice at p reads as n runes. -/
def RReads (w : World) (p : Option Addr) (n : Nat) (f : Nat → Int) : Prop := 0 < n → ∃ b off, p = some ⟨b, off, none⟩ ∧ ∀ k, k < n → w.cell? ⟨b, off + k, none⟩ = some (.int .i32 (f k))
theorem RReads.grew {w w' : World} {p : Option Addr} {n : Nat} {f : Nat → Int} (h : RReads w p n f) (g : Grew w w') : RReads w' p n f := fun hn => by
  obtain ⟨b, off, hp, hc⟩ := h hn
  exact ⟨b, off, hp, fun k hk => (g.1.cell (p := ⟨b, off + k, none⟩) (lt_of_cell (hc k hk))).trans (hc k hk)⟩

/-- What a call may do whose own blocks begin at B: write blocks from B on, make blocks, draw. -/
def Upto (B : Nat) (w w' : World) : Prop := Below B w w' ∧ w.drawn ≤ w'.drawn
theorem Upto.refl (B : Nat) (w : World) : Upto B w w := ⟨Below.refl _ _, Nat.le_refl _⟩
theorem Upto.grew {w w' : World} (h : Upto w.heap.size w w') : Grew w w' := h
theorem Upto.trans {B : Nat} {a b c : World} (h : Upto B a b) (k : Upto B b c) : Upto B a c := ⟨h.1.trans k.1, Nat.le_trans h.2 k.2⟩
theorem Upto.of_grew {B : Nat} {w w' : World} (h : Grew w w') (hB : B ≤ w.heap.size) : Upto B w w' := ⟨h.1.mono hB, h.2⟩

/-- A slice that append has made: nil, or the head of a block of the call's own, from block number base on; n elements. -/
abbrev Own (w : World) (base : Nat) (v : Value) (n : Nat) (xs : List Value) : Prop := w.ownsRow base 3 1 v n xs
def vals (n : Nat) (f : Nat → Int) : List Value := (List.range n).map fun k => Value.int .i64 (f k)
theorem vals_succ (n : Nat) (f : Nat → Int) : vals (n + 1) f = vals n f ++ [.int .i64 (f n)] := by simp [vals, List.range_succ]
theorem vals_get {n : Nat} (f : Nat → Int) {k : Nat} (hk : k < n) : (vals n f)[k]? = some (.int .i64 (f k)) := by simp [vals, hk]
end Go.Proofs.Ytfiaongnogiegaa

/- Plain facts on a merge sort from blocks upward: what sorted blocks become when neighbours are merged; no premise on the program. -/
import Derived.Test.YtbmkamnjjfmdiaaFxPick
import Derived.Test.YtbmkamnjjfmdiaaFxSymB
namespace Go.Proofs.Ytbmkamnjjfmdiaa
open Go.Sort
variable {α : Type} [Inhabited α] {lt ls : α → α → Bool}

/-- Blocks of s elements each (the last one shorter) are sorted. -/
def Blocks (ls : α → α → Bool) (n s : Nat) (d : Array α) : Prop := ∀ k, SortedIn ls (k * s) (min n (k * s + s)) d
/-- The first i pairs of blocks are merged already. -/
structure Half (ls : α → α → Bool) (n s i A : Nat) (d : Array α) : Prop where
  at' : A = i * (2 * s)
  front : ∀ k, k < i → SortedIn ls (k * (2 * s)) (k * (2 * s) + 2 * s) d
  rest : ∀ k, 2 * i ≤ k → SortedIn ls (k * s) (min n (k * s + s)) d

theorem SortedIn.empty {a b : Nat} {d : Array α} (h : b ≤ a + 1) : SortedIn ls a b d := fun p q h1 h2 h3 => by omega
theorem SortedIn.sub {a b a' b' : Nat} {d : Array α} (h : SortedIn ls a b d) (ha : a ≤ a') (hb : b' ≤ b) : SortedIn ls a' b' d := fun p q h1 h2 h3 => h p q (by omega) h2 (by omega)

theorem Half.start {n s : Nat} {d : Array α} (h : Blocks ls n s d) : Half ls n s 0 0 d := ⟨by omega, fun k hk => by omega, fun k _ => h k⟩
theorem two_mul_mul (i s : Nat) : 2 * i * s = i * (2 * s) := by rw [Nat.mul_comm 2 i, Nat.mul_assoc]
theorem Half.left {n s i A : Nat} {d : Array α} (h : Half ls n s i A d) (hn : A + s ≤ n) : SortedIn ls A (A + s) d := by
  have := h.rest (2 * i) (Nat.le_refl _)
  rw [two_mul_mul, ← h.at', Nat.min_eq_right hn] at this
  exact this
theorem Half.right {n s i A : Nat} {d : Array α} (h : Half ls n s i A d) : SortedIn ls (A + s) (min n (A + 2 * s)) d := by
  have := h.rest (2 * i + 1) (by omega)
  rw [Nat.add_mul, two_mul_mul, ← h.at', Nat.one_mul] at this
  rw [show A + 2 * s = A + s + s by omega]
  exact this
theorem le_mul {i k s : Nat} (h : i ≤ k) : i * s ≤ k * s := Nat.mul_le_mul_right _ h
theorem Half.step {n s i A : Nat} {d e : Array α} (h : Half ls n s i A d) (hP : PermI A (A + 2 * s) d e) (hS : SortedIn ls A (A + 2 * s) e) : Half ls n s (i + 1) (A + 2 * s) e := by
  refine ⟨by rw [Nat.add_mul, Nat.one_mul, ← h.at'], fun k hk => ?_, fun k hk => ?_⟩
  · by_cases hki : k = i
    · subst hki; rw [← h.at']; exact hS
    · have := le_mul (s := 2 * s) (show k + 1 ≤ i by omega)
      rw [Nat.add_mul, Nat.one_mul, ← h.at'] at this
      exact sorted_out hP (h.front k (by omega)) (Or.inl this)
  · have := le_mul (s := s) hk
    rw [two_mul_mul, Nat.add_mul, Nat.one_mul, ← h.at'] at this
    exact sorted_out hP (h.rest k (by omega)) (Or.inr this)
theorem Half.done {n s i A : Nat} {d e : Array α} (h : Half ls n s i A d) (hn : n < A + 2 * s) (hP : PermI A n d e) (hS : SortedIn ls A n e) : Blocks ls n (2 * s) e := by
  intro k
  rcases Nat.lt_trichotomy k i with hk | hk | hk
  · have := le_mul (s := 2 * s) (show k + 1 ≤ i by omega)
    rw [Nat.add_mul, Nat.one_mul, ← h.at'] at this
    exact SortedIn.sub (sorted_out hP (h.front k hk) (Or.inl this)) (Nat.le_refl _) (by omega)
  · subst hk
    rw [← h.at']
    exact SortedIn.sub hS (Nat.le_refl _) (Nat.min_le_left _ _)
  · have := le_mul (s := 2 * s) (show i + 1 ≤ k by omega)
    rw [Nat.add_mul, Nat.one_mul, ← h.at'] at this
    exact SortedIn.empty (by omega)
theorem Half.idle {n s i A : Nat} {d : Array α} (h : Half ls n s i A d) (hn : n ≤ A + s) : SortedIn ls A n d := by
  have := h.rest (2 * i) (Nat.le_refl _)
  rw [two_mul_mul, ← h.at', Nat.min_eq_left hn] at this
  exact this
theorem Blocks.whole {n s : Nat} {d : Array α} (h : Blocks ls n s d) (hn : n ≤ s) : SortedIn ls 0 n d := by
  have := h 0
  rw [Nat.zero_mul, Nat.zero_add, Nat.min_eq_left hn] at this
  exact this

/-- The first i blocks of 20 are sorted already. -/
def First (ls : α → α → Bool) (i A : Nat) (d : Array α) : Prop := A = i * 20 ∧ ∀ k, k < i → SortedIn ls (k * 20) (k * 20 + 20) d
theorem First.start (d : Array α) : First ls 0 0 d := ⟨by omega, fun k hk => by omega⟩
theorem First.step {i A : Nat} {d e : Array α} (h : First ls i A d) (hP : PermI A (A + 20) d e) (hS : SortedIn ls A (A + 20) e) : First ls (i + 1) (A + 20) e := by
  obtain ⟨h1, h2⟩ := h
  refine ⟨by omega, fun k hk => ?_⟩
  by_cases hki : k = i
  · subst hki; rw [← h1]; exact hS
  · exact sorted_out hP (h2 k (by omega)) (Or.inl (by omega))
theorem First.done {n i A : Nat} {d e : Array α} (h : First ls i A d) (hn : n < A + 20) (hP : PermI A n d e) (hS : SortedIn ls A n e) : Blocks ls n 20 e := by
  obtain ⟨h1, h2⟩ := h
  intro k
  rcases Nat.lt_trichotomy k i with hk | hk | hk
  · exact SortedIn.sub (sorted_out hP (h2 k hk) (Or.inl (by omega))) (Nat.le_refl _) (by omega)
  · subst hk
    rw [← h1]
    exact SortedIn.sub hS (Nat.le_refl _) (Nat.min_le_left _ _)
  · exact SortedIn.empty (by omega)

/-- What the sort keeps of the row from the first step to the last. -/
structure Keeps (lt ls : α → α → Bool) (n : Nat) (d0 d : Array α) : Prop where
  perm : PermI 0 n d0 d
  inv : Inv lt ls 0 n d
theorem Keeps.step {n a b : Nat} {d0 d e : Array α} (h : Keeps lt ls n d0 d) (hn : n ≤ d0.size) (hb : b ≤ n) (hP : PermI a b d e) (hS : SortedIn ls a b e) : Keeps lt ls n d0 e :=
  ⟨h.perm.trans hn (hP.mono (Nat.zero_le _) hb), h.inv.perm hP hS hb (by rw [h.perm.size]; exact hn)⟩
end Go.Proofs.Ytbmkamnjjfmdiaa
/- The library's stable sort of a row of at most 2^59 cells: it leaves a permutation of the row that is sorted in the finer order; the row is memory of the call's own, the comparison is a function that only reads. -/
namespace Go.Proofs.Ytbmkamnjjfmdiaa
open Go.Shelf Go.RowKit Go.Lib Go.Sort Go.Proofs
variable {α : Type} [Inhabited α]

end Go.Proofs.Ytbmkamnjjfmdiaa
/- Rows of integers in memory: slices that come in, and rows of the call's own; what sorting leaves of the rest of memory. No condition. -/
namespace Go.Proofs.Ytbmkamnjjfmdiaa
open Go.Shelf Go.RowKit Go.Lib Go.Sort Go.Proofs

/-- The cells of a row of n integers. -/
def ints (n : Nat) (f : Nat → Int) : Array Value := Array.ofFn (n := n) fun i => Value.int .i64 (f i)
@[simp] theorem size_ints (n : Nat) (f : Nat → Int) : (ints n f).size = n := by simp [ints]
theorem ints_get {n : Nat} (f : Nat → Int) {i : Nat} (h : i < n) : (ints n f)[i]? = some (.int .i64 (f i)) := by
  rw [Array.getElem?_eq_getElem (by simpa using h)]; simp [ints]
theorem ints_set (n : Nat) (f : Nat → Int) (i : Nat) (v : Int) : (ints n f).setIfInBounds i (.int .i64 v) = ints n (fun j => if j = i then v else f j) := by
  apply Array.ext_getElem?
  intro j
  rw [Array.getElem?_setIfInBounds]
  by_cases hj : j < n
  · rw [ints_get f hj, ints_get (fun j => if j = i then v else f j) hj]
    by_cases h : i = j
    · subst h; simp [hj]
    · simp only [if_neg h, if_neg (fun e => h (Eq.symm e))]
  · rw [Array.getElem?_eq_none (by simpa using hj), Array.getElem?_eq_none (by simpa using hj)]
    by_cases h : i = j
    · subst h; rw [if_pos rfl, size_ints, if_neg hj]
    · rw [if_neg h]
theorem ints_congr {n : Nat} {f g : Nat → Int} (h : ∀ i, i < n → f i = g i) : ints n f = ints n g := by
  apply Array.ext
  · simp
  · intro j h1 h2
    simp only [ints, Array.getElem_ofFn]
    rw [h j (by simpa using h1)]

/-- Block b is a row of n integers of the call's own. -/
def IRow (w : World) (b n : Nat) (f : Nat → Int) : Prop := w.heap[b]? = some (.cells (ints n f) 3 (0, 0))
section
variable {w w' : World} {b n : Nat} {f : Nat → Int}
theorem IRow.lt (h : IRow w b n f) : b < w.heap.size := by
  rcases Nat.lt_or_ge b w.heap.size with hlt | hge
  · exact hlt
  · unfold IRow at h; rw [Array.getElem?_eq_none hge] at h; cases h
theorem IRow.cell (h : IRow w b n f) {i : Nat} (hi : i < n) : w.cell? ⟨b, i, none⟩ = some (.int .i64 (f i)) := by
  rw [cell_of_row w b i _ 3 (0, 0) h]; exact ints_get f hi
theorem IRow.frozen (h : IRow w b n f) (i : Nat) : w.frozen? ⟨b, i, none⟩ = false := by
  unfold IRow at h; simp [World.frozen?, h]
theorem IRow.drew (h : IRow w b n f) : IRow w.drew b n f := h
theorem IRow.drewN (h : IRow w b n f) (k : Nat) : IRow (w.drewN k) b n f := h
theorem IRow.alloc (h : IRow w b n f) (o : Obj) : IRow (w.alloc o) b n f := (Below.heap_alloc w o b h.lt).trans h
theorem IRow.far (h : IRow w b n f) {p : Addr} (hp : b ≠ p.block) (u : Value) : IRow (w.setCell p u) b n f := (Below.heap_setCell w p u b hp).trans h
theorem IRow.set_ (h : IRow w b n f) (i : Nat) (v : Int) : IRow (w.setCell ⟨b, i, none⟩ (.int .i64 v)) b n (fun j => if j = i then v else f j) := by
  unfold IRow at h ⊢
  simp [World.setCell, Array.getElem?_modify, h, ints_set]
theorem IRow.below {B : Nat} (h : IRow w b n f) (hb : Below B w w') (hg : b < B) : IRow w' b n f := (hb.block b hg).trans h
theorem IRow.congr {g : Nat → Int} (h : IRow w b n f) (e : ∀ i, i < n → f i = g i) : IRow w b n g := by unfold IRow at h ⊢; rw [h, ints_congr e]
theorem IRow.new (w : World) (n : Nat) (f : Nat → Int) : IRow (w.alloc (.cells (ints n f) 3)) w.heap.size n f := heap_alloc_new w _
end

theorem zeros (n : Nat) : madeCells #[.int .i64 0] n = ints n (fun _ => 0) := by
  apply Array.ext
  · simp [madeCells]
  · intro j h1 h2
    simp [madeCells, ints, Nat.mod_one]
theorem info_int : (Try.prog.info? 3).map (fun i => (i.zero, i.size, i.bytes)) = some (some (.int .i64 0), 1, 8) := by kernel_rfl
theorem make_ints (n : Nat) (hn : n ≤ 1048576) (w : World) :
    (Instr.makeSlice 26 (.int .i64 (n : Int)) (.int .i64 (n : Int))).run Try.prog w = .ok (.slice (some ⟨w.heap.size, 0, none⟩) n n) (w.alloc (.cells (ints n (fun _ => 0)) 3)) := by
  obtain ⟨i, hi, hz0, hz1, hz2⟩ := info_parts info_int
  have hr := run_make (P := Try.prog) w 26 3 i _ Try.underlying26 hi hz0 .i64 .i64 n n (by omega) (by omega) (by rw [hz2]; omega) (by omega)
  simp only [Int.toNat_natCast] at hr
  rw [hr, hz1, Nat.mul_one, ← zeros]
  rfl

/-- What is below block B in one world, the sort leaves as it was, where the row lies at B or above. -/
theorem SW.below_ {α : Type} [Inhabited α] {enc : α → Value} {w0 W : World} {blk off : Nat} {dk : Array α} (h : SW enc w0 blk off dk W) (hblk : blk < w0.heap.size) : Below blk w0 W := by
  obtain ⟨n, os, rfl⟩ := h
  unfold sortWorld
  refine ⟨rfl, rfl, rfl, ?_, fun k hk => ?_⟩
  · rw [size_grow, size_putRow]; show w0.heap.size ≤ w0.heap.size + _; omega
  · have hl : k < w0.heap.size := by omega
    rw [heap_grow_old _ _ (by rw [size_putRow]; exact hl)]
    show (w0.heap.modify blk _)[k]? = _
    rw [Array.getElem?_modify, if_neg (by omega)]
theorem sortWorld_cell {α : Type} [Inhabited α] (enc : α → Value) (w0 : World) (blk off n : Nat) (dk : Array α) (os : Array Obj) (a : Addr) (h1 : a.block < w0.heap.size) (h2 : a.block ≠ blk) : (sortWorld enc w0 blk off n dk os).cell? a = w0.cell? a := by
  unfold sortWorld
  rw [cell?_grow _ _ _ (by rw [size_putRow]; exact h1), cell?_putRow_other enc _ blk off _ _ (Or.inl h2)]
  rfl
end Go.Proofs.Ytbmkamnjjfmdiaa

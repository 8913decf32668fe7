/- append to a slice of integers of the call's own, where old memory alone is kept in sight; no condition. -/
import Derived.Test.YtjaapdkhjgolfaaBoB
import Derived.OwnWalk
import Derived.Test.YtjaapdkhjgolfaaApp
namespace Go.Proofs.Ytjaapdkhjgolfaa
open Go.RowKit Go.Sort
set_option linter.unusedVariables false
set_option linter.unusedSimpArgs false

def vals (n : Nat) (f : Nat → Int) : List Value := (List.range n).map fun i => .int .i64 (f i)
theorem vals_len (n : Nat) (f : Nat → Int) : (vals n f).length = n := by simp [vals]
theorem vals_succ (n : Nat) (f : Nat → Int) : vals (n + 1) f = vals n f ++ [.int .i64 (f n)] := by simp [vals, List.range_succ]
theorem vals_congr {n : Nat} {f g : Nat → Int} (h : ∀ i, i < n → f i = g i) : vals n f = vals n g := by
  unfold vals
  apply List.map_congr_left
  intro i hi
  rw [h i (List.mem_range.1 hi)]
theorem vals_get {n : Nat} (f : Nat → Int) {k : Nat} (hk : k < n) : (vals n f)[k]? = some (.int .i64 (f k)) := by simp [vals, hk]
theorem below_appended {w0 w w' : World} {row : Option Nat} (h : Below w0.heap.size w0 w) (hg : w.grownBy w' row) (hrow : ∀ k, row = some k → w0.heap.size ≤ k) : Below w0.heap.size w0 w' :=
  ⟨hg.os.trans h.os, hg.tape.trans h.tape, hg.output.trans h.output, Nat.le_trans h.size hg.size, fun k hk => (hg.block k (Nat.lt_of_lt_of_le hk h.size) (fun e => by have := hrow k e.symm; omega)).trans (h.block k hk)⟩
theorem own_vals {w : World} {base : Nat} {v : Value} {n : Nat} {f : Nat → Int} (h : w.ownsRow base 3 1 v n (vals n f)) : ∃ p c, v = .slice p n c ∧ Reads w p n f := by
  rcases h.2 with ⟨rfl, h0⟩ | ⟨g, cap, cur, rfl, hb, hg, hc, hm, hs, ht⟩
  · have hn : n = 0 := by simpa using h0
    subst hn
    exact ⟨none, 0, rfl, fun hn => absurd hn (Nat.lt_irrefl _)⟩
  · refine ⟨some ⟨g, 0, none⟩, cap, rfl, fun hn => ⟨g, 0, rfl, fun k hk => ?_⟩⟩
    have := vals_get f hk
    rw [← ht, List.getElem?_take, if_pos (by omega)] at this
    rw [Nat.zero_add, cell_of_row w g k cur _ (0, 0) hg]
    simpa using this
end Go.Proofs.Ytjaapdkhjgolfaa

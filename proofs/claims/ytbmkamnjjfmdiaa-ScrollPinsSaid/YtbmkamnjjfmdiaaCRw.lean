/- Rows of integers in a block that may be longer, read and written; what append has made reads as one; no condition. -/
import Derived.Test.YtbmkamnjjfmdiaaKep
import Derived.Test.YtbmkamnjjfmdiaaFxShare
namespace Go.Proofs.Ytbmkamnjjfmdiaa
open Go.RowKit Go.Sort
set_option linter.unusedVariables false
set_option linter.unusedSimpArgs false

def vals (n : Nat) (f : Nat → Int) : List Value := (List.range n).map fun i => .int .i64 (f i)
theorem vals_get {n : Nat} (f : Nat → Int) {k : Nat} (hk : k < n) : (vals n f)[k]? = some (.int .i64 (f k)) := by simp [vals, hk]
def CRw (w : World) (b n : Nat) (f : Nat → Int) : Prop := ∃ cur : Array Value, w.heap[b]? = some (.cells cur 3 (0, 0)) ∧ ∀ k, k < n → cur[k]? = some (.int .i64 (f k))
section
variable {w w' : World} {b n sb : Nat} {f g : Nat → Int}
theorem CRw.lt (h : CRw w b n f) : b < w.heap.size := by obtain ⟨cur, h1, _⟩ := h; exact (Array.getElem?_eq_some_iff.1 h1).1
theorem CRw.cell (h : CRw w b n f) {i : Nat} (hi : i < n) : w.cell? ⟨b, i, none⟩ = some (.int .i64 (f i)) := by
  obtain ⟨cur, h1, h2⟩ := h
  rw [cell_of_row w b i _ 3 (0, 0) h1]; exact h2 i hi
theorem CRw.frozen (h : CRw w b n f) (i : Nat) : w.frozen? ⟨b, i, none⟩ = false := by obtain ⟨cur, h1, _⟩ := h; simp [World.frozen?, h1]
theorem CRw.congr (h : CRw w b n f) (e : ∀ i, i < n → f i = g i) : CRw w b n g := by obtain ⟨cur, h1, h2⟩ := h; exact ⟨cur, h1, fun k hk => by rw [← e k hk]; exact h2 k hk⟩
theorem CRw.below (h : CRw w b n f) (hb : Below w.heap.size w w') : CRw w' b n f := by obtain ⟨cur, h1, h2⟩ := h; exact ⟨cur, (hb.block b (Array.getElem?_eq_some_iff.1 h1).1).trans h1, h2⟩
theorem CRw.set_ (h : CRw w b n f) (i : Nat) (v : Int) : CRw (w.setCell ⟨b, i, none⟩ (.int .i64 v)) b n (fun j => if j = i then v else f j) := by
  obtain ⟨cur, h1, h2⟩ := h
  refine ⟨cur.setIfInBounds i (.int .i64 v), by simp [World.setCell, Array.getElem?_modify, h1], fun k hk => ?_⟩
  rw [Array.getElem?_setIfInBounds]
  by_cases e : i = k
  · subst e
    have := h2 i hk
    rw [if_pos rfl, if_pos (Array.getElem?_eq_some_iff.1 this).1]
    show _ = some (Value.int .i64 (if i = i then v else f i))
    rw [if_pos rfl]
  · rw [if_neg e]
    show _ = some (Value.int .i64 (if k = i then v else f k))
    rw [if_neg (fun h => e h.symm)]; exact h2 k hk
theorem CRw.far (h : CRw w b n f) {p : Addr} (hp : b ≠ p.block) (u : Value) : CRw (w.setCell p u) b n f := by obtain ⟨cur, h1, h2⟩ := h; exact ⟨cur, (Below.heap_setCell w p u b hp).trans h1, h2⟩
theorem CRw.kept (h : CRw w b n f) (hk : Kept sb w w') (hn : b ≠ sb) : CRw w' b n f := by obtain ⟨cur, h1, h2⟩ := h; exact ⟨cur, (hk.block b (Array.getElem?_eq_some_iff.1 h1).1 hn).trans h1, h2⟩
theorem CRw.of (h : IRow w b n f) : CRw w b n f := ⟨_, h, fun k hk => ints_get f hk⟩
theorem CRw.reads (h : CRw w b n f) : Reads w (some ⟨b, 0, none⟩) n f := fun _ => ⟨b, 0, rfl, fun k hk => by rw [Nat.zero_add]; exact h.cell hk⟩
end
theorem own_sz {w : World} {base : Nat} {v : Value} {n : Nat} {f : Nat → Int} (h : w.ownsRow base 3 1 v n (vals n f)) : ∃ (p : Option Addr) (b c : Nat), v = .slice p n c ∧ n ≤ c ∧ base ≤ b ∧ (0 < n → p = some ⟨b, 0, none⟩ ∧ CRw w b n f) := by
  rcases h.2 with ⟨rfl, h0⟩ | ⟨g, cap, cur, rfl, hb, hg, hc, hm, hs, ht⟩
  · have hn : n = 0 := by simpa using h0
    subst hn
    exact ⟨none, base, 0, rfl, Nat.le_refl _, Nat.le_refl _, fun h => absurd h (Nat.lt_irrefl _)⟩
  · refine ⟨_, g, cap, rfl, hc, hb, fun hn => ⟨rfl, cur, hg, fun k hk => ?_⟩⟩
    have := vals_get f hk
    rw [← ht, List.getElem?_take, if_pos (by omega)] at this
    simpa using this
end Go.Proofs.Ytbmkamnjjfmdiaa

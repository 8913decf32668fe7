/- The plain text of the law on Latin letters: what its classes are, and what its levels are said to be. -/
import Derived.Test.YtdkmjhbkjhikfaaBdK
import Derived.Test.YtdkmjhbkjhikfaaBdZ
import Derived.Test.YtdkmjhbkjhikfaaBdSrc
import Derived.Test.YtdkmjhbkjhikfaaBdOpen
namespace Go.Proofs.Ytdkmjhbkjhikfaa
open Go.RowKit Go.Sort
set_option linter.unusedVariables false
set_option linter.unusedSimpArgs false

/-- The runes that the law draws. -/
def al (x : Nat) : Int := [97, 98, 32, 49, 46, 122].getD x 0
def Al (r : Int) : Prop := ∃ x, x < 6 ∧ r = al x
theorem al_small : (List.range 6).all (fun x => decide ((cls (al x)).d = 0 ∨ (cls (al x)).d = 3 ∨ (cls (al x)).d = 7 ∨ (cls (al x)).d = 12) && decide (brS (al x) = (0, 0)) && decide (0 ≤ al x) && decide (al x ≤ 200)) = true := by kernel_rfl
theorem Al.facts {r : Int} (h : Al r) : ((cls r).d = 0 ∨ (cls r).d = 3 ∨ (cls r).d = 7 ∨ (cls r).d = 12) ∧ brS r = (0, 0) ∧ -2147483648 ≤ r ∧ r ≤ 2147483647 := by
  obtain ⟨x, hx, rfl⟩ := h
  have := List.all_eq_true.1 al_small x (List.mem_range.2 hx)
  simp only [Bool.and_eq_true, decide_eq_true_eq] at this
  obtain ⟨⟨⟨h1, h2⟩, h3⟩, h4⟩ := this
  exact ⟨h1, h2, by omega, by omega⟩
theorem left_zero {n : Nat} {g f : Nat → Int} (h : LevP n 0 g f) (hg : ∀ j, j < n → g j = 0 ∨ g j = 3 ∨ g j = 7 ∨ g j = 12) : ∀ j, j < n → f j = 0 := fun j hj => by
  obtain ⟨c, h1, h2⟩ := h
  have c0 := (h1 j hj).2.2.2.2 ⟨fun i hi => by have := hg i hi; omega, rfl⟩
  have := h2 j hj
  rw [c0] at this
  have l : lvl 0 0 = 0 := rfl
  rw [l] at this
  omega
theorem right_two {n : Nat} {g f : Nat → Int} (h : LevP n 1 g f) (hg : ∀ j, j < n → g j = 0 ∨ g j = 3 ∨ g j = 7 ∨ g j = 12) : ∀ j, j < n → (f j = 1 ∨ f j = 2) ∧ (g j = 0 ∨ g j = 3 → f j = 2) := fun j hj => by
  obtain ⟨c, h1, h2⟩ := h
  obtain ⟨a1, a2, a3, a4, _⟩ := h1 j hj
  have b := h2 j hj
  have l0 : lvl 1 0 = 2 := rfl
  have l1 : lvl 1 1 = 1 := rfl
  have l3 : lvl 1 3 = 2 := rfl
  refine ⟨?_, fun hs => ?_⟩
  · rcases b with b | b
    · rcases a4 with e | e | e <;> rw [e] at b <;> omega
    · omega
  · rcases b with b | b
    · rcases hs with e | e
      · rw [a1 e] at b; omega
      · rcases a3 e with e | e <;> rw [e] at b <;> omega
    · omega
theorem But.appended {b : Nat} {w0 w w' : World} {row : Option Nat} (h : But b w0 w) (hg : w.grownBy w' row) (hd : w.drawn ≤ w'.drawn) (hrow : ∀ k, row = some k → w0.heap.size ≤ k) : But b w0 w' :=
  ⟨hg.os.trans h.os, hg.tape.trans h.tape, hg.output.trans h.output, Nat.le_trans h.size hg.size, Nat.le_trans h.drawn hd, fun k hk hb => (hg.block k (Nat.lt_of_lt_of_le hk h.size) (fun e => by have := hrow k e.symm; omega)).trans (h.block k hk hb)⟩
/-- The text as far as it has been drawn. -/
def PF (sb m c' : Nat) (p : Option Addr) (w2 : World) (k : Nat) (v : Value) (wr : World) : Prop :=
  But sb w2 wr ∧ (∃ t' : Nat, t' ≤ k ∧ Blk wr sb 38 [.slice p m c', .int .i64 (t' : Int)]) ∧ (k = 0 → v = .slice none 0 0) ∧
    ∃ tx : Nat → Int, wr.ownsRow w2.heap.size 21 1 v k (rvals k tx) ∧ ∀ j, j < k → Al (tx j)
theorem rvals_congr {n : Nat} {f g : Nat → Int} (h : ∀ i, i < n → f i = g i) : rvals n f = rvals n g := by
  unfold rvals
  apply List.map_congr_left
  intro k hk
  rw [h k (List.mem_range.1 hk)]
theorem PF.next {sb m c' k : Nat} {p : Option Addr} {w2 wo wa w1 : World} {v v' : Value} {x t' : Nat} {tx : Nat → Int} (a1 : But sb w2 wo) (a4 : wo.ownsRow w2.heap.size 21 1 v k (rvals k tx)) (a5 : ∀ j, j < k → Al (tx j)) (b : But sb wo wa) (ht : t' ≤ k + 1) (hS : Blk wa sb 38 [.slice p m c', .int .i64 (t' : Int)]) (hx : x < 6) (hsb : sb < w2.heap.size)
    (h1 : w1.ownsRow w2.heap.size 21 1 v' (k + 1) (rvals k tx ++ [.int .i32 (al x)])) (h2 : (wa.alloc (.cells #[.int .i32 (al x)] 21)).grownBy w1 v.ownBlock) (h3 : wa.drawn ≤ w1.drawn) : PF sb m c' p w2 (k + 1) v' w1 := by
  have hlt : ∀ q, v.ownBlock = some q → w2.heap.size ≤ q := fun q hq => (a4.lt q hq).1
  refine ⟨((a1.trans b).alloc _).appended h2 h3 hlt, ⟨t', ht, (hS.alloc _).same (h2.block sb (hS.alloc _).lt (fun e => by have := hlt sb e.symm; omega))⟩, fun h => by omega, fun j => if j < k then tx j else al x, ?_, fun j hj => ?_⟩
  · have := h1
    rw [rvals_succ, rvals_congr (f := fun j => if j < k then tx j else al x) (g := tx) (fun i hi => if_pos hi), if_neg (Nat.lt_irrefl _)]
    exact this
  · by_cases e : j < k
    · simp only [if_pos e]; exact a5 j e
    · simp only [if_neg e]; exact ⟨x, hx, rfl⟩
theorem PF.text {sb m c' k : Nat} {p : Option Addr} {w2 wo : World} {v : Value} (h : PF sb m c' p w2 k v wo) (hk : 0 < k) : ∃ (tb cap : Nat) (tx : Nat → Int), v = .slice (some ⟨tb, 0, none⟩) k cap ∧ tb < wo.heap.size ∧ (∀ j, j < k → wo.cell? ⟨tb, 0 + j, none⟩ = some (.int .i32 (tx j))) ∧ ∀ j, j < k → Al (tx j) := by
  obtain ⟨_, _, _, tx, a4, a5⟩ := h
  rcases a4.2 with ⟨_, h0⟩ | ⟨b, cap, cur, hv, hb, hg, hc, hm, hs, ht⟩
  · omega
  · refine ⟨b, cap, tx, hv, (Array.getElem?_eq_some_iff.1 hg).1, fun j hj => ?_, a5⟩
    have e : (rvals k tx)[j]? = some (.int .i32 (tx j)) := by simp [rvals, hj]
    have ht' : cur.toList.take (k * 1) = rvals k tx := ht
    rw [← ht', List.getElem?_take, if_pos (by omega)] at e
    rw [Nat.zero_add, cell_of_row wo b j cur _ (0, 0) hg]
    simpa using e
end Go.Proofs.Ytdkmjhbkjhikfaa

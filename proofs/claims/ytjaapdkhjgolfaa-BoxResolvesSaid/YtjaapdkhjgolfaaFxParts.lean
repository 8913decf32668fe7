/- Share of package fixed by one contract for its errors and one for its parts, and what the parts are; the weights are a slice of readable integers. -/
import Derived.Test.YtjaapdkhjgolfaaFxFacts
namespace Go.Proofs.Ytjaapdkhjgolfaa
open Go.RowKit

/-- The parts of a total by the weights. -/
def Parts (total : Int) (f : Nat → Int) (n : Nat) (P : Nat → Int) : Prop :=
  sumF f n = 0 ∧ (∀ i, i < n → P i = 0) ∨ 0 < sumF f n ∧ ∃ h g : Nat → Nat, Order (remF total (sumF f n) f) n h g ∧ ∀ i, i < n → P i = partF total (sumF f n) (total - sumF (quoF total (sumF f n) f) n) f g i
theorem shared_parts {total : Int} {f : Nat → Int} {n : Nat} {w : World} {e : Ending} {w' : World} (h : Shared total f n w e w') :
    e = .returned (.tuple #[.slice (some ⟨w.heap.size, 0, none⟩) n n, .int .i64 0]) ∧ Below w.heap.size w w' ∧ ∃ P, Parts total f n P ∧ IRow w' w.heap.size n P := by
  obtain ⟨P, h1, h2, h3, h4⟩ := h
  refine ⟨h1, h2, P, ?_, h3⟩
  rcases h4 with h4 | ⟨h4, h, g, g1, g2, g3, g4, g5⟩
  · exact Or.inl h4
  · exact Or.inr ⟨h4, h, g, ⟨g1, g2, g3, g4⟩, g5⟩
theorem quo_zero (S : Int) (f : Nat → Int) (n : Nat) : (0 : Int) - sumF (quoF 0 S f) n = 0 := by
  rw [sum_congr n (g := fun _ => 0) (fun k _ => by unfold quoF; simp), sum_zero]; rfl
section
variable {total : Int} {f P : Nat → Int} {n : Nat}
theorem Parts.order (h : Parts total f n P) (h0 : 0 ≤ total) {i k : Nat} (hi : i < n) (hk : k < i) : (f i ≤ f k → P i ≤ P k) ∧ (f k < f i → P k ≤ P i) := by
  rcases h with ⟨_, h⟩ | ⟨hp, a, b, O, h⟩
  · rw [h i hi, h k (by omega)]; exact ⟨fun _ => Int.le_refl _, fun _ => Int.le_refl _⟩
  · rw [h i hi, h k (by omega)]
    exact part_order h0 hp O hi hk (fun hz => by subst hz; exact quo_zero _ _ _)
theorem Parts.bounds (h : Parts total f n P) (h0 : 0 ≤ total) (hf : Good f n) {i : Nat} (hi : i < n) :
    0 ≤ P i ∧ P i ≤ total ∧ (f i = 0 → P i = 0) ∧ (0 < sumF f n → P i * sumF f n - total * f i < sumF f n ∧ -sumF f n < P i * sumF f n - total * f i) := by
  rcases h with ⟨hz, h⟩ | ⟨hp, a, b, O, h⟩
  · rw [h i hi]; exact ⟨Int.le_refl _, h0, fun _ => rfl, fun hp => by omega⟩
  · rw [h i hi]
    obtain ⟨b1, b2, b3, b4, b5⟩ := part_bounds h0 hf rfl hp O hi
    exact ⟨b1, b2, b3, fun _ => ⟨b4, b5⟩⟩
theorem Parts.sum (h : Parts total f n P) (hf : Good f n) : (sumF f n = 0 ∧ sumF P n = 0) ∨ (0 < sumF f n ∧ sumF P n = total) := by
  rcases h with ⟨hz, h⟩ | ⟨hp, a, b, O, h⟩
  · exact Or.inl ⟨hz, by rw [sum_congr n (g := fun _ => 0) h, sum_zero]⟩
  · exact Or.inr ⟨hp, by rw [sum_congr n h]; exact part_sum hf rfl hp O⟩
end

/-- All arguments are in range. -/
def InShare (total : Int) (f : Nat → Int) (n : Nat) : Prop := n ≤ 100 ∧ 0 ≤ total ∧ total ≤ 1073741824 ∧ Good f n
theorem share_err (total : Int) (p : Option Addr) (n c : Nat) (f : Nat → Int) (w : World) (hr : Reads w p n f) (h : ¬ InShare total f n) :
    Calls Try.prog 47 #[.int .i64 total, .slice p n c] w fun e w' => e = .returned (.tuple #[.slice none 0 0, .int .i64 (if 100 < n then 2 else 1)]) ∧ w = w' := by
  by_cases hn : 100 < n
  · rw [if_pos hn]
    exact share_bad total p n c 2 w (Or.inr rfl) (check_long total p n c w hn)
  · rw [if_neg hn]
    refine share_bad total p n c 1 w (Or.inl rfl) ?_
    by_cases ht : 0 ≤ total ∧ total ≤ 1073741824
    · refine (check_any total p n c f w (by omega) ht.1 ht.2 hr).mono ?_
      rintro e w' ⟨he | he, hw⟩
      · exact absurd ⟨by omega, ht.1, ht.2, he.1⟩ h
      · exact ⟨he.2, hw⟩
    · exact check_total total p n c w (by omega) ht
theorem share_ok (total : Int) (p : Option Addr) (n c : Nat) (f : Nat → Int) (w : World) (hr : Reads w p n f) (h : InShare total f n) :
    Calls Try.prog 47 #[.int .i64 total, .slice p n c] w fun e w' =>
      e = .returned (.tuple #[.slice (some ⟨w.heap.size, 0, none⟩) n n, .int .i64 0]) ∧ Below w.heap.size w w' ∧ ∃ P, Parts total f n P ∧ IRow w' w.heap.size n P := by
  obtain ⟨h1, h2, h3, h4⟩ := h
  have s0 := sum_nonneg n (fun k hk => (h4 k hk).1)
  by_cases hz : sumF f n = 0
  · exact (share_zero total p n c f w h1 h2 h3 hr h4 hz).mono fun _ _ h => shared_parts h
  · exact (share_main total p n c f w h1 h2 h3 hr h4 (by omega)).mono fun _ _ h => shared_parts h
end Go.Proofs.Ytjaapdkhjgolfaa

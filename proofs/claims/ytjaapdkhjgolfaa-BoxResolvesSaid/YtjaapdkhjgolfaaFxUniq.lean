/- Plain facts: the order of remainders exists and is unique, so the parts of a total are determined; the first greatest remainder that is left is the next in that order. No premise on the program. -/
import Derived.Test.YtjaapdkhjgolfaaFxParts
namespace Go.Proofs.Ytjaapdkhjgolfaa
open Go.Sort
section
variable {r : Nat → Int} {n : Nat} {h g h' g' : Nat → Nat}
theorem Order.iff (O : Order r n h g) {x y : Nat} (hx : x < n) (hy : y < n) : before r x y ↔ g x < g y := by
  constructor
  · exact O.rank hx
  · intro hl
    have := O.ord (g x) (g y) hl (O.g_lt hy)
    rwa [O.hg, O.hg] at this
instance (r : Nat → Int) (x y : Nat) : Decidable (before r x y) := by unfold before; exact inferInstance
theorem Order.count (O : Order r n h g) {x : Nat} (hx : x < n) : (g x : Int) = sumF (fun y => if before r y x then (1 : Int) else 0) n := by
  have e : sumF (fun y => if before r y x then (1 : Int) else 0) n = sumF (fun y => (fun k => if k < g x then (1 : Int) else 0) (g y)) n := by
    refine sum_congr n fun y hy => ?_
    show _ = if g y < g x then (1 : Int) else 0
    by_cases hb : before r y x
    · rw [if_pos hb, if_pos ((O.iff hy hx).mp hb)]
    · rw [if_neg hb, if_neg (fun hl => hb ((O.iff hy hx).mpr hl))]
  rw [e, sum_perm O.hg O.gh (fun k hk => O.g_lt hk) (fun k hk => O.h_lt hk) (fun k => if k < g x then (1 : Int) else 0), sum_below, if_pos (Nat.le_of_lt (O.g_lt hx))]
theorem Order.unique (O : Order r n h g) (O' : Order r n h' g') {x : Nat} (hx : x < n) : g x = g' x := by
  have a := O.count hx
  have b := O'.count hx
  omega
end
theorem order_exists (r : Nat → Int) (m : Nat) : ∃ h g, Order r (m + 1) h g := by
  have hs := ins_sorts (finerF m r) (Nat.zero_le (m + 1)) (by rw [size_idF]; exact Nat.le_refl _) (invF m r)
  obtain ⟨h, ⟨g, g1, g2, g3, g4⟩, _⟩ := ranked_of m r hs.1 hs.2
  exact ⟨h, g, g1, g2, g3, g4⟩
theorem Parts.unique {total : Int} {f P Q : Nat → Int} {n : Nat} (hp : Parts total f n P) (hq : Parts total f n Q) {i : Nat} (hi : i < n) : P i = Q i := by
  rcases hp with ⟨z, hp⟩ | ⟨z, h, g, O, hp⟩
  · rcases hq with ⟨_, hq⟩ | ⟨z', _⟩
    · rw [hp i hi, hq i hi]
    · omega
  · rcases hq with ⟨z', _⟩ | ⟨_, h', g', O', hq⟩
    · omega
    · rw [hp i hi, hq i hi]
      unfold partF
      rw [O.unique O' hi]

/-- best is the first of the greatest among the first i. -/
def Best (x : Nat → Int) (best i : Nat) : Prop := best < i ∧ (∀ j, j < i → x j ≤ x best) ∧ ∀ j, j < best → x j < x best
theorem Best.start (x : Nat → Int) : Best x 0 1 := by
  refine ⟨by omega, fun j hj => ?_, fun j hj => by omega⟩
  obtain rfl : j = 0 := by omega
  exact Int.le_refl _
theorem Best.take {x : Nat → Int} {best i : Nat} (h : Best x best i) (hx : x best < x i) : Best x i (i + 1) :=
  ⟨by omega, fun j hj => by
    by_cases e : j = i
    · subst e; exact Int.le_refl _
    · have := h.2.1 j (by omega); omega, fun j hj => by have := h.2.1 j hj; omega⟩
theorem Best.keep {x : Nat → Int} {best i : Nat} (h : Best x best i) (hx : ¬ x best < x i) : Best x best (i + 1) :=
  ⟨by have := h.1; omega, fun j hj => by
    by_cases e : j = i
    · subst e; omega
    · exact h.2.1 j (by omega), h.2.2⟩
/-- What is left of the remainders behind t rounds. -/
def leftF (r : Nat → Int) (g : Nat → Nat) (t j : Nat) : Int := if g j < t then -1 else r j
theorem Best.next {r : Nat → Int} {n : Nat} {h g : Nat → Nat} (O : Order r n h g) (hr : ∀ j, j < n → 0 ≤ r j) {t best : Nat} (ht : t < n) (hB : Best (leftF r g t) best n) : best = h t := by
  obtain ⟨b1, b2, b3⟩ := hB
  have hn := O.h_lt ht
  have e : leftF r g t (h t) = r (h t) := by unfold leftF; rw [O.gh, if_neg (Nat.lt_irrefl _)]
  have l := b2 (h t) hn
  have r0 := hr (h t) hn
  rw [e] at l
  by_cases hg : g best < t
  · have : leftF r g t best = -1 := by unfold leftF; rw [if_pos hg]
    omega
  · have eb : leftF r g t best = r best := by unfold leftF; rw [if_neg hg]
    rw [eb] at l
    rcases Nat.eq_or_lt_of_le (Nat.le_of_not_lt hg) with hg' | hg'
    · rw [hg', O.hg]
    · have hb := (O.iff hn b1).mpr (by rw [O.gh]; exact hg')
      unfold before at hb
      have : h t < best := by omega
      have := b3 (h t) this
      rw [e, eb] at this
      omega
end Go.Proofs.Ytjaapdkhjgolfaa

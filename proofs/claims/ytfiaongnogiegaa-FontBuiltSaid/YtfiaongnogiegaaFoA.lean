/- What the small functions of package font return: within, length, isRune, precedes, and the three comparisons of lists; no condition. -/
import Derived.Test.YtfiaongnogiegaaFoApp
import Derived.Test.YtfiaongnogiegaaFoRnd
import Derived.Test.YtfiaongnogiegaaChFnB
namespace Go.Proofs.Ytfiaongnogiegaa
open Go.RowKit Go.Sort
set_option linter.unusedVariables false
set_option linter.unusedSimpArgs false

theorem fwithin_any (x lo hi : Int) (w : World) :
    Calls Try.prog 45 #[.int .i64 x, .int .i64 lo, .int .i64 hi] w fun e w' => e = .returned (.bool (decide (lo ≤ x ∧ x ≤ hi))) ∧ w = w' := by
  by_cases h1 : lo ≤ x
  · by_cases h2 : x ≤ hi
    · have e : decide (lo ≤ x ∧ x ≤ hi) = true := by simp [h1, h2]
      rw [e]
      go_enter Try.func45, Try.ntmps45
      go_wp2
      go_ret
      exact ⟨rfl, rfl⟩
    · have e : decide (lo ≤ x ∧ x ≤ hi) = false := by simp [h1, h2]
      rw [e]
      go_enter Try.func45, Try.ntmps45
      go_wp2
      go_ret
      exact ⟨rfl, rfl⟩
  · have e : decide (lo ≤ x ∧ x ≤ hi) = false := by simp [h1]
    rw [e]
    go_enter Try.func45, Try.ntmps45
    go_wp2
    go_ret
    exact ⟨rfl, rfl⟩

/-- A number can be a width or a height. -/
def lenB (x : Int) : Bool := decide (0 ≤ x ∧ x ≤ 4096)
theorem length_any (x : Int) (w : World) :
    Calls Try.prog 46 #[.int .i64 x] w fun e w' => e = .returned (.bool (lenB x)) ∧ w = w' := by
  have K := fun W => hide (fwithin_any x 0 4096 W)
  have e0 : decide (0 ≤ x ∧ x ≤ 4096) = lenB x := rfl
  rw [e0] at K
  generalize lenB x = v at *
  clear e0
  go_enter Try.func46, Try.ntmps46
  go_wp2_with fail
  refine (K _).out.mono ?_
  rintro e w' ⟨rfl, rfl⟩
  go_wp2
  go_ret
  exact ⟨rfl, rfl⟩

def runeB (r : Int) : Bool := decide (0 ≤ r ∧ r ≤ 1114111)
theorem isRune_any (r : Int) (w : World) :
    Calls Try.prog 47 #[.int .i32 r] w fun e w' => e = .returned (.bool (runeB r)) ∧ w = w' := by
  unfold runeB
  by_cases h1 : 0 ≤ r
  · by_cases h2 : r ≤ 1114111
    · have e : decide (0 ≤ r ∧ r ≤ 1114111) = true := by simp [h1, h2]
      rw [e]
      go_enter Try.func47, Try.ntmps47
      go_wp2
      go_ret
      exact ⟨rfl, rfl⟩
    · have e : decide (0 ≤ r ∧ r ≤ 1114111) = false := by simp [h1, h2]
      rw [e]
      go_enter Try.func47, Try.ntmps47
      go_wp2
      go_ret
      exact ⟨rfl, rfl⟩
  · have e : decide (0 ≤ r ∧ r ≤ 1114111) = false := by simp [h1]
    rw [e]
    go_enter Try.func47, Try.ntmps47
    go_wp2
    go_ret
    exact ⟨rfl, rfl⟩

def preB (a b c d : Int) : Bool := decide (a < c ∨ (a = c ∧ b < d))
theorem precedes_any (a b c d : Int) (w : World) :
    Calls Try.prog 52 #[.int .i32 a, .int .i32 b, .int .i32 c, .int .i32 d] w fun e w' => e = .returned (.bool (preB a b c d)) ∧ w = w' := by
  unfold preB
  by_cases h1 : a < c
  · have e : decide (a < c ∨ (a = c ∧ b < d)) = true := by simp [h1]
    rw [e]
    go_enter Try.func52, Try.ntmps52
    go_wp2
    go_ret
    exact ⟨rfl, rfl⟩
  · by_cases h2 : a = c
    · subst h2
      by_cases h3 : b < d
      · have e : decide (a < a ∨ (a = a ∧ b < d)) = true := by simp [h3]
        rw [e]
        go_enter Try.func52, Try.ntmps52
        go_wp2
        go_ret
        exact ⟨rfl, rfl⟩
      · have e : decide (a < a ∨ (a = a ∧ b < d)) = false := by simp [h3]
        rw [e]
        go_enter Try.func52, Try.ntmps52
        go_wp2
        go_ret
        exact ⟨rfl, rfl⟩
    · have e : decide (a < c ∨ (a = c ∧ b < d)) = false := by simp [h1, h2]
      have h2b : (a == c) = false := by simpa using h2
      rw [e]
      go_enter Try.func52, Try.ntmps52
      go_wp2
      go_ret
      exact ⟨rfl, rfl⟩

abbrev adV (f t w : Int) : Value := .agg #[.int .i32 f, .int .i32 t, .int .i64 w]
abbrev knV (a b d : Int) : Value := .agg #[.int .i32 a, .int .i32 b, .int .i64 d]
abbrev lgV (a b g w : Int) : Value := .agg #[.int .i32 a, .int .i32 b, .int .i64 g, .int .i64 w]
theorem less1_any (f t l f' t' l' : Int) (w : World) :
    Calls Try.prog 49 #[adV f t l, adV f' t' l'] w fun e w' => e = .returned (.bool (decide (t < f'))) ∧ Grew w w' := by
  have G : Hid (∀ o1 o2, Grew w ((w.alloc o1).alloc o2)) := fun o1 o2 => ((Grew.refl w).alloc o1).alloc o2
  by_cases h : t < f'
  · have e : decide (t < f') = true := by simp [h]
    rw [e]
    go_enter Try.func49, Try.ntmps49
    go_wp2
    go_ret
    exact ⟨rfl, G.out _ _⟩
  · have e : decide (t < f') = false := by simp [h]
    rw [e]
    go_enter Try.func49, Try.ntmps49
    go_wp2
    go_ret
    exact ⟨rfl, G.out _ _⟩
theorem less2_any (a b d a' b' d' : Int) (w : World) :
    Calls Try.prog 51 #[knV a b d, knV a' b' d'] w fun e w' => e = .returned (.bool (preB a b a' b')) ∧ Grew w w' := by
  have G : Hid (∀ o1 o2, Grew w ((w.alloc o1).alloc o2)) := fun o1 o2 => ((Grew.refl w).alloc o1).alloc o2
  have K := fun W => hide (precedes_any a b a' b' W)
  go_enter Try.func51, Try.ntmps51
  go_wp2_with fail
  refine (K _).out.mono ?_
  rintro e w' ⟨rfl, rfl⟩
  go_wp2
  go_ret
  exact ⟨rfl, G.out _ _⟩
theorem less3_any (a b g l a' b' g' l' : Int) (w : World) :
    Calls Try.prog 54 #[lgV a b g l, lgV a' b' g' l'] w fun e w' => e = .returned (.bool (preB a b a' b')) ∧ Grew w w' := by
  have G : Hid (∀ o1 o2, Grew w ((w.alloc o1).alloc o2)) := fun o1 o2 => ((Grew.refl w).alloc o1).alloc o2
  have K := fun W => hide (precedes_any a b a' b' W)
  go_enter Try.func54, Try.ntmps54
  go_wp2_with fail
  refine (K _).out.mono ?_
  rintro e w' ⟨rfl, rfl⟩
  go_wp2
  go_ret
  exact ⟨rfl, G.out _ _⟩
end Go.Proofs.Ytfiaongnogiegaa

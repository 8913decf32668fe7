/- The positions of elements: mirrored ones, gaps, those that are justified between the ends; no premise on the program. -/
import Derived.Test.YtjaapdkhjgolfaaBoOf
import Derived.Test.YtjaapdkhjgolfaaBoAl
namespace Go.Proofs.Ytjaapdkhjgolfaa
open Go.RowKit Go.Sort
set_option linter.unusedVariables false
set_option linter.unusedSimpArgs false

theorem of_mirror (av gap ju : Int) (n : Nat) (f : Nat → Int) (i : Nat) : ofF av gap ju n f true i = av - ofF av gap ju n f false i - f i := by
  unfold ofF
  simp only [if_true, Bool.false_eq_true, if_false]
  omega
theorem of_step {av gap ju : Int} {n : Nat} {f : Nat → Int} (hn : n ≤ 100) (h : ofOk av gap ju n f) {i : Nat} (hi : i + 1 < n) :
    ofF av gap ju n f false i + f i + gap ≤ ofF av gap ju n f false (i + 1) ∧ ofF av gap ju n f true (i + 1) + f (i + 1) + gap ≤ ofF av gap ju n f true i := by
  have e := ext_bd hn h hi
  rw [of_mirror, of_mirror]
  have e1 : ofF av gap ju n f false (i + 1) = ofF av gap ju n f false i + f i + (gap + extO av gap ju n f (i + 1)) := by
    unfold ofF
    simp only [Bool.false_eq_true, if_false]
    rfl
  rw [e1]
  omega
theorem al_mirror (al av sz : Int) : alA al av sz true = av - alX al av sz - alA al av sz false := by
  unfold alA
  simp only [if_true, Bool.false_eq_true, if_false]
/-- Between the ends: the position of element i, where the sum of the sizes is less than the space. -/
theorem pos_between {av : Int} {n : Nat} {f : Nat → Int} (hf : 0 < freO av 0 n f) (hn : 1 < n) : ∀ i, i < n → posO av 0 3 n f i = sumF f i + sumF (shr (freO av 0 n f) ones (n - 1)) i
  | 0, _ => by show at0 3 _ = _; simp [at0, sumF]
  | i + 1, hi => by
    have ih := pos_between hf hn i (by omega)
    show posO av 0 3 n f i + f i + (0 + extO av 0 3 n f (i + 1)) = _
    have e : extO av 0 3 n f (i + 1) = shr (freO av 0 n f) ones (n - 1) i := by
      unfold extO
      rw [if_pos ⟨rfl, hf, hn, by omega⟩, Nat.add_sub_cancel]
    rw [e, ih]
    simp only [sumF]
    omega
theorem sum_ones : ∀ n : Nat, sumF ones n = n
  | 0 => rfl
  | n + 1 => by simp only [sumF, sum_ones n, ones]; omega
theorem between_ends {av : Int} {n : Nat} {f : Nat → Int} (hf : 0 < freO av 0 n f) (hn : 1 < n) :
    ofF av 0 3 n f false 0 = 0 ∧ ofF av 0 3 n f false (n - 1) + f (n - 1) = av := by
  obtain ⟨m, rfl⟩ : ∃ m, n = m + 2 := ⟨n - 2, by omega⟩
  have hs := (shr_parts (T := freO av 0 (m + 2) f) (ones_good (m + 1))).sum (ones_good (m + 1))
  rw [sum_ones] at hs
  have hs' : sumF (shr (freO av 0 (m + 2) f) ones (m + 1)) (m + 1) = freO av 0 (m + 2) f := by
    rcases hs with h | h
    · omega
    · exact h.2
  have p0 := pos_between hf hn 0 (by omega)
  have p1 := pos_between hf hn (m + 1) (by omega)
  have e1 : m + 2 - 1 = m + 1 := by omega
  unfold ofF
  simp only [Bool.false_eq_true, if_false]
  rw [e1] at p0 p1 ⊢
  rw [p0, p1, hs']
  constructor
  · rfl
  · have e2 : freO av 0 (m + 2) f = av - (sumF f (m + 1) + f (m + 1)) := by
      unfold freO spcF
      rw [if_neg (by omega)]
      simp only [sumF]
      omega
    omega
/-- The gaps differ by one at most. -/
theorem between_gaps {av : Int} {n : Nat} {f : Nat → Int} (hf : 0 < freO av 0 n f) (hn : 1 < n) : ∃ g : Int, 0 ≤ g ∧ ∀ i, i + 1 < n → g ≤ ofF av 0 3 n f false (i + 1) - ofF av 0 3 n f false i - f i ∧ ofF av 0 3 n f false (i + 1) - ofF av 0 3 n f false i - f i ≤ g + 1 := by
  obtain ⟨m, rfl⟩ : ∃ m, n = m + 2 := ⟨n - 2, by omega⟩
  refine ⟨freO av 0 (m + 2) f / ((m + 1 : Nat) : Int), Int.ediv_nonneg (by omega) (by omega), fun i hi => ?_⟩
  have p0 := pos_between hf hn i (by omega)
  have p1 := pos_between hf hn (i + 1) (by omega)
  have b := (shr_parts (T := freO av 0 (m + 2) f) (ones_good (m + 1))).bounds (by omega) (ones_good (m + 1)) (i := i) (by omega)
  have e1 : m + 2 - 1 = m + 1 := by omega
  unfold ofF
  simp only [Bool.false_eq_true, if_false]
  rw [e1] at p0 p1
  rw [p0, p1]
  simp only [sumF]
  rw [sum_ones] at b
  have b4 := b.2.2.2 (by omega)
  have o1 : ones i = 1 := rfl
  rw [o1, Int.mul_one] at b4
  generalize shr (freO av 0 (m + 2) f) ones (m + 1) i = P at *
  generalize freO av 0 (m + 2) f = T at *
  have hN : (0 : Int) < ((m + 1 : Nat) : Int) := by omega
  generalize ((m + 1 : Nat) : Int) = N at *
  have q1 := Int.ediv_mul_le T (Int.ne_of_gt hN)
  have q2 := Int.lt_ediv_add_one_mul_self T hN
  have key : T / N ≤ P ∧ P ≤ T / N + 1 := by
    constructor
    · rcases (show P < T / N ∨ T / N ≤ P by omega) with h | h
      · have := Int.mul_le_mul_of_nonneg_right (show P ≤ T / N - 1 by omega) (Int.le_of_lt hN)
        rw [Int.sub_mul] at this
        omega
      · exact h
    · rcases (show T / N + 1 < P ∨ P ≤ T / N + 1 by omega) with h | h
      · have := Int.mul_le_mul_of_nonneg_right (show T / N + 1 + 1 ≤ P by omega) (Int.le_of_lt hN)
        rw [Int.add_mul (T / N + 1)] at this
        omega
      · exact h
  omega
end Go.Proofs.Ytjaapdkhjgolfaa

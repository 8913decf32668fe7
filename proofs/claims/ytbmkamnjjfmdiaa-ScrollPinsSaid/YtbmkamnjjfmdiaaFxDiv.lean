/- Plain facts on division that rounds towards zero, and on the quotients that Floor and Round return; no premise on the program. -/
import Derived.WalkKit
namespace Go.Proofs.Ytbmkamnjjfmdiaa
/-- The quotient rounded down. -/
def flr (a b : Int) : Int := a.fdiv b
/-- The quotient rounded to the nearest integer, up at a tie. -/
def rnd (a b : Int) : Int := (2 * a + b).fdiv (2 * b)

theorem flr_pos {a b q : Int} (hb : 0 < b) (h1 : q * b ≤ a) (h2 : a < q * b + b) : flr a b = q := by
  unfold flr
  rw [Int.fdiv_eq_ediv_of_nonneg _ (Int.le_of_lt hb)]
  apply Int.le_antisymm
  · exact Int.le_of_lt_add_one (Int.ediv_lt_of_lt_mul hb (by rw [Int.add_mul, Int.one_mul]; exact h2))
  · exact Int.le_ediv_of_mul_le hb h1

theorem flr_neg_neg (a b : Int) : flr a b = flr (-a) (-b) := by
  unfold flr
  rw [Int.neg_fdiv_neg]

theorem flr_neg {a b q : Int} (hb : b < 0) (h1 : a ≤ q * b) (h2 : q * b + b < a) : flr a b = q := by
  rw [flr_neg_neg]
  exact flr_pos (by omega) (by rw [Int.mul_neg]; omega) (by rw [Int.mul_neg]; omega)

/-- What the walk knows of a quotient and a remainder, both rounded towards zero. -/
theorem td (a b : Int) : a.tdiv b * b + a.tmod b = a := by rw [Int.mul_comm]; exact Int.mul_tdiv_add_tmod a b
theorem td_abs (a b : Int) (hb : b ≠ 0) : (a.tmod b).natAbs < b.natAbs := by
  rw [Int.natAbs_tmod]; exact Nat.mod_lt _ (Int.natAbs_pos.mpr hb)
theorem td_sign_pos (a b : Int) (ha : 0 ≤ a) : 0 ≤ a.tmod b := Int.tmod_nonneg _ ha
theorem td_sign_neg (a b : Int) (ha : a ≤ 0) : a.tmod b ≤ 0 := by
  have := Int.tmod_nonneg b (show 0 ≤ -a by omega)
  rw [Int.neg_tmod] at this
  omega
theorem td_bound (a b : Int) : (a.tdiv b).natAbs ≤ a.natAbs := by
  rw [Int.natAbs_tdiv]; exact Nat.div_le_self _ _

/-- The remainder is not 0 and has not the divisor's sign: one less than the quotient rounded towards zero. -/
theorem flr_down (a b : Int) (hb : b ≠ 0) (h0 : a.tmod b ≠ 0) (hs : (a.tmod b < 0) ↔ ¬ (b < 0)) : flr a b = a.tdiv b - 1 := by
  have h1 := td a b
  have h2 := td_abs a b hb
  rcases Int.lt_or_gt_of_ne hb with h | h
  · have : ¬ a.tmod b < 0 := fun hn => (hs.mp hn) h
    exact flr_neg h (by rw [Int.sub_mul]; omega) (by rw [Int.sub_mul]; omega)
  · have : a.tmod b < 0 := hs.mpr (by omega)
    exact flr_pos h (by rw [Int.sub_mul]; omega) (by rw [Int.sub_mul]; omega)
theorem flr_same (a b : Int) (hb : b ≠ 0) (h : a.tmod b = 0 ∨ ((a.tmod b < 0) ↔ (b < 0))) : flr a b = a.tdiv b := by
  have h1 := td a b
  have h2 := td_abs a b hb
  rcases Int.lt_or_gt_of_ne hb with hn | hp
  · have : a.tmod b ≤ 0 := by
      rcases h with h | h
      · omega
      · exact Int.le_of_lt (h.mpr hn)
    exact flr_neg hn (by omega) (by omega)
  · have : 0 ≤ a.tmod b := by
      rcases h with h | h
      · omega
      · rcases Int.lt_or_le (a.tmod b) 0 with h' | h'
        · have := h.mp h'; omega
        · exact h'
    exact flr_pos hp (by omega) (by omega)

theorem rnd_pos {a b q : Int} (hb : 0 < b) (h1 : 2 * (q * b) ≤ 2 * a + b) (h2 : 2 * a < 2 * (q * b) + b) : rnd a b = q := by
  show flr (2 * a + b) (2 * b) = q
  have e : q * (2 * b) = 2 * (q * b) := by rw [Int.mul_left_comm]
  exact flr_pos (by omega) (by omega) (by omega)
theorem rnd_neg_neg (a b : Int) : rnd a b = rnd (-a) (-b) := by
  show flr (2 * a + b) (2 * b) = flr (2 * -a + -b) (2 * -b)
  rw [flr_neg_neg]
  congr 1 <;> omega
theorem td_lt (a b : Int) (hb : 0 < b) : a.tmod b < b ∧ -b < a.tmod b := by
  have := td_abs a b (by omega)
  omega
theorem rnd_a (a b : Int) (hb : 0 < b) (h1 : b ≤ 2 * a.tmod b) : rnd a b = a.tdiv b + 1 := by
  have h2 := td a b
  have h3 := td_lt a b hb
  exact rnd_pos hb (by rw [Int.add_mul]; omega) (by rw [Int.add_mul]; omega)
theorem rnd_b (a b : Int) (hb : 0 < b) (h0 : -b ≤ 2 * a.tmod b) (h1 : 2 * a.tmod b < b) : rnd a b = a.tdiv b := by
  have h2 := td a b
  exact rnd_pos hb (by omega) (by omega)
theorem rnd_c (a b : Int) (hb : 0 < b) (h0 : 2 * a.tmod b < -b) : rnd a b = a.tdiv b - 1 := by
  have h2 := td a b
  have h3 := td_lt a b hb
  exact rnd_pos hb (by rw [Int.sub_mul]; omega) (by rw [Int.sub_mul]; omega)
theorem rn_a (a b : Int) (hb : b < 0) (h1 : -b ≤ 2 * -a.tmod b) : rnd a b = a.tdiv b + 1 := by
  have h := rnd_a (-a) (-b) (by omega)
  rw [rnd_neg_neg]
  simp only [Int.neg_tdiv, Int.tdiv_neg, Int.neg_tmod, Int.tmod_neg, Int.neg_neg] at h
  exact h h1
theorem rn_b (a b : Int) (hb : b < 0) (h0 : b ≤ 2 * -a.tmod b) (h1 : 2 * -a.tmod b < -b) : rnd a b = a.tdiv b := by
  have h := rnd_b (-a) (-b) (by omega)
  rw [rnd_neg_neg]
  simp only [Int.neg_tdiv, Int.tdiv_neg, Int.neg_tmod, Int.tmod_neg, Int.neg_neg] at h
  exact h h0 h1
theorem rn_c (a b : Int) (hb : b < 0) (h0 : 2 * -a.tmod b < b) : rnd a b = a.tdiv b - 1 := by
  have h := rnd_c (-a) (-b) (by omega)
  rw [rnd_neg_neg]
  simp only [Int.neg_tdiv, Int.tdiv_neg, Int.neg_tmod, Int.tmod_neg, Int.neg_neg] at h
  exact h h0
end Go.Proofs.Ytbmkamnjjfmdiaa

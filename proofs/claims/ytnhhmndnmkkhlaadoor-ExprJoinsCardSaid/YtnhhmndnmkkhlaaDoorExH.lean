/- abs, is, fits, calculate and apply at two values that are no lists and no texts; operands of at most 2^40. -/
import Derived.Test.YtnhhmndnmkkhlaaDoorExFl
namespace Go.Proofs.YtnhhmndnmkkhlaaDoor
open Go.RowKit Go.Sort
set_option linter.unusedVariables false
set_option linter.unusedSimpArgs false

set_option maxHeartbeats 4000000 in
theorem abs_any (n : Int) (w : World) (h : n.natAbs ≤ 4611686018427387904) : Calls Tryd.prog 91 #[.int .i64 n] w fun e w' => e = .returned (.int .i64 (n.natAbs : Int)) ∧ w = w' := by
  have w1 : IntKind.i64.wrap (-n) = -n := wr (by omega) (by omega)
  by_cases h0 : 0 ≤ n
  · have h1 : -n ≤ n := by omega
    have e1 : max n (-n) = (n.natAbs : Int) := by omega
    go_enter Tryd.func91, Tryd.ntmps91
    go_wp2
    go_ret
    exact ⟨ret_int (by omega), rfl⟩
  · have h1 : ¬ -n ≤ n := by omega
    have e1 : max n (-n) = (n.natAbs : Int) := by omega
    go_enter Tryd.func91, Tryd.ntmps91
    go_wp2
    go_ret
    exact ⟨ret_int (by omega), rfl⟩

set_option maxHeartbeats 4000000 in
theorem is_any (l k q : Int) (w : World) : Calls Tryd.prog 76 #[.agg #[.int .i64 l, .int .i64 k], .int .i64 q] w fun e w' => e = .returned (.bool (l == 0 && k == q)) ∧ Grew w w' := by
  by_cases h1 : l = 0
  · subst h1
    by_cases h2 : k = q
    · subst h2
      go_enter Tryd.func76, Tryd.ntmps76
      go_wp2
      go_ret
      refine ⟨ret_bool (by simp), ?_⟩
      repeat' (first | (with_reducible exact Grew.refl _) | (with_reducible refine Grew.setCell ?_ ?_ _) | (with_reducible refine Grew.drewN ?_ _) | (with_reducible refine Grew.reD ?_ _) | (with_reducible refine Grew.alloc ?_ _) | (dsimp only; omega))
    · go_enter Tryd.func76, Tryd.ntmps76
      go_wp2
      go_ret
      refine ⟨ret_bool (by simp [h2]), ?_⟩
      repeat' (first | (with_reducible exact Grew.refl _) | (with_reducible refine Grew.setCell ?_ ?_ _) | (with_reducible refine Grew.drewN ?_ _) | (with_reducible refine Grew.reD ?_ _) | (with_reducible refine Grew.alloc ?_ _) | (dsimp only; omega))
  · have e1 : (l == 0) = false := by simpa using h1
    go_enter Tryd.func76, Tryd.ntmps76
    go_wp2
    go_ret
    refine ⟨ret_bool (by simp [e1]), ?_⟩
    repeat' (first | (with_reducible exact Grew.refl _) | (with_reducible refine Grew.setCell ?_ ?_ _) | (with_reducible refine Grew.drewN ?_ _) | (with_reducible refine Grew.reD ?_ _) | (with_reducible refine Grew.alloc ?_ _) | (dsimp only; omega))

/-- The result of an operator of two ints, and the error. -/
def calR (op a b : Int) : Int × Int :=
  if op = 5 then (a + b, 0) else if op = 6 then (a - b, 0) else if op = 7 then (if (a * b).natAbs ≤ 1099511627776 then (a * b, 0) else (0, 1))
  else if b = 0 then (0, 1) else if op = 8 then (flr a b, 0) else (a - b * flr a b, 0)
def Sm (a : Int) : Prop := -1099511627776 ≤ a ∧ a ≤ 1099511627776
theorem mul_dec {a b : Int} (ha : Sm a) (hb : Sm b) (h0 : b ≠ 0) : ((1099511627776 : Int).tdiv (b.natAbs : Int) < (a.natAbs : Int)) ↔ ¬ (a * b).natAbs ≤ 1099511627776 := by
  have hp : 0 < b.natAbs := by omega
  have e : (1099511627776 : Int).tdiv (b.natAbs : Int) = ((1099511627776 / b.natAbs : Nat) : Int) := by
    have key : ∀ (x y : Nat), ((x : Int)).tdiv (y : Int) = ((x / y : Nat) : Int) := fun x y => rfl
    exact key 1099511627776 b.natAbs
  rw [e, Int.natAbs_mul]
  have := Nat.le_div_iff_mul_le (x := a.natAbs) (y := 1099511627776) hp
  omega
theorem flr_bd {a b : Int} (ha : Sm a) (hb : Sm b) (h0 : b ≠ 0) : (flr a b).natAbs ≤ 1099511627777 ∧ (b * flr a b).natAbs ≤ 2199023255552 ∧ Sm (flr a b) ∧ Sm (a - b * flr a b) ∧ flr a b * b + (a - b * flr a b) = a ∧ (0 < b → 0 ≤ a - b * flr a b ∧ a - b * flr a b < b) ∧ (b < 0 → a - b * flr a b ≤ 0 ∧ b < a - b * flr a b) := by
  unfold Sm at *
  have h1 := Int.mul_fdiv_add_fmod a b
  have e : a - b * flr a b = a.fmod b := by unfold flr; omega
  have hm : flr a b * b + a.fmod b = a := by unfold flr; rw [Int.mul_comm]; exact h1
  have hpos : 0 < b → 0 ≤ a.fmod b ∧ a.fmod b < b := fun h => ⟨Int.fmod_nonneg_of_pos a h, Int.fmod_lt_of_pos a h⟩
  have hneg : b < 0 → a.fmod b ≤ 0 ∧ b < a.fmod b := fun h => by
    have h2 := Int.fmod_lt_of_pos (-a) (show 0 < -b by omega)
    have h3 := Int.fmod_nonneg_of_pos (-a) (show 0 < -b by omega)
    have h4 : (-a).fmod (-b) = -(a.fmod b) := Int.neg_fmod_neg a b
    omega
  have hb1 : (a.fmod b).natAbs ≤ 1099511627776 := by
    rcases Int.lt_or_gt_of_ne h0 with h | h
    · have := hneg h; omega
    · have := hpos h; omega
  have hq : (b * flr a b).natAbs ≤ 2199023255552 := by omega
  have hsm : -1099511627776 ≤ flr a b ∧ flr a b ≤ 1099511627776 := by
    rcases Int.lt_or_gt_of_ne h0 with h | h
    · have := hneg h
      constructor
      · by_cases hc : flr a b < -1099511627776
        · exfalso
          have h5 := Int.mul_le_mul_of_nonneg_right (show 1099511627777 ≤ -flr a b by omega) (show 0 ≤ -b by omega)
          rw [Int.neg_mul_neg] at h5
          omega
        · omega
      · by_cases hc : 1099511627776 < flr a b
        · exfalso
          have h5 := Int.mul_le_mul_of_nonneg_right (show 1099511627777 ≤ flr a b by omega) (show 0 ≤ -b by omega)
          simp only [Int.mul_neg] at h5
          omega
        · omega
    · have := hpos h
      constructor
      · by_cases hc : flr a b < -1099511627776
        · exfalso
          have h5 := Int.mul_le_mul_of_nonneg_right (show 1099511627777 ≤ -flr a b by omega) (show 0 ≤ b by omega)
          rw [Int.neg_mul] at h5
          omega
        · omega
      · by_cases hc : 1099511627776 < flr a b
        · exfalso
          have h5 := Int.mul_le_mul_of_nonneg_right (show 1099511627777 ≤ flr a b by omega) (show 0 ≤ b by omega)
          omega
        · omega
  rw [e]
  exact ⟨by omega, hq, hsm, ⟨by omega, by omega⟩, hm, hpos, hneg⟩
end Go.Proofs.YtnhhmndnmkkhlaaDoor

/- The small functions of package expr: what each returns; no condition but the sizes of numbers. -/
import Derived.Test.YtnhhmndnmkkhlaaDoorExA
namespace Go.Proofs.YtnhhmndnmkkhlaaDoor
open Go.RowKit Go.Sort
set_option linter.unusedVariables false
set_option linter.unusedSimpArgs false

def ltB (b : Int) : Bool := decide (97 ≤ b ∧ b ≤ 122 ∨ 65 ≤ b ∧ b ≤ 90)
def dgB (b : Int) : Bool := decide (48 ≤ b ∧ b ≤ 57)
def nuB (n : Int) : Bool := decide (-1099511627776 ≤ n ∧ n ≤ 1099511627776)
def trB (n : Int) : Bool := decide (n = 0 ∨ n = 1)

set_option maxHeartbeats 4000000 in
theorem letter_any (b : Int) (w : World) : Calls Tryd.prog 51 #[.int .u8 b] w fun e w' => e = .returned (.bool (ltB b)) ∧ w = w' := by
  by_cases h1 : 97 ≤ b <;> by_cases h2 : b ≤ 122 <;> by_cases h3 : 65 ≤ b <;> by_cases h4 : b ≤ 90
  all_goals
    go_enter Tryd.func51, Tryd.ntmps51
    go_wp2
    go_ret
    exact ⟨ret_bool (by simp [ltB, h1, h2, h3, h4]), rfl⟩
set_option maxHeartbeats 4000000 in
theorem digit_any (b : Int) (w : World) : Calls Tryd.prog 52 #[.int .u8 b] w fun e w' => e = .returned (.bool (dgB b)) ∧ w = w' := by
  by_cases h1 : 48 ≤ b <;> by_cases h2 : b ≤ 57
  all_goals
    go_enter Tryd.func52, Tryd.ntmps52
    go_wp2
    go_ret
    exact ⟨ret_bool (by simp [dgB, h1, h2]), rfl⟩
set_option maxHeartbeats 4000000 in
theorem isNumber_any (n : Int) (w : World) : Calls Tryd.prog 72 #[.int .i64 n] w fun e w' => e = .returned (.bool (nuB n)) ∧ w = w' := by
  by_cases h1 : -1099511627776 ≤ n <;> by_cases h2 : n ≤ 1099511627776
  all_goals
    go_enter Tryd.func72, Tryd.ntmps72
    go_wp2
    go_ret
    exact ⟨ret_bool (by simp [nuB, h1, h2]), rfl⟩
set_option maxHeartbeats 4000000 in
theorem isTruth_any (n : Int) (w : World) : Calls Tryd.prog 73 #[.int .i64 n] w fun e w' => e = .returned (.bool (trB n)) ∧ w = w' := by
  by_cases h1 : n = 0
  · subst h1
    go_enter Tryd.func73, Tryd.ntmps73
    go_wp2
    go_ret
    exact ⟨ret_bool (by simp [trB]), rfl⟩
  · have e1 : (n == 0) = false := by simpa using h1
    by_cases h2 : n = 1
    · subst h2
      go_enter Tryd.func73, Tryd.ntmps73
      go_wp2
      go_ret
      exact ⟨ret_bool (by simp [trB]), rfl⟩
    · have e2 : (n == 1) = false := by simpa using h2
      go_enter Tryd.func73, Tryd.ntmps73
      go_wp2
      go_ret
      exact ⟨ret_bool (by simp [trB, h1, h2]), rfl⟩
def zS : ByteArray := ⟨#[]⟩
/-- A value of a kind with a number alone. -/
abbrev nv (k n : Int) : Value := .agg #[.int .i64 k, .int .i64 n, .string ⟨#[]⟩, .slice none 0 0]
set_option maxHeartbeats 4000000 in
theorem integer_any (n : Int) (w : World) : Calls Tryd.prog 55 #[.int .i64 n] w fun e w' => e = .returned (nv 1 n) ∧ Grew w w' := by
  go_enter Tryd.func55, Tryd.ntmps55
  go_wp2
  refine bodyPost_ret (v := nv 1 n) (by simp [results, Tryd.results55, go_sem]) rfl ⟨rfl, ?_⟩
  repeat' (first | (with_reducible exact Grew.refl _) | (with_reducible refine Grew.setCell ?_ ?_ _) | (with_reducible refine Grew.drewN ?_ _) | (with_reducible refine Grew.reD ?_ _) | (with_reducible refine Grew.alloc ?_ _) | (dsimp only; omega))
set_option maxHeartbeats 4000000 in
theorem truth_any (b : Bool) (w : World) : Calls Tryd.prog 56 #[.bool b] w fun e w' => e = .returned (nv 2 (if b then 1 else 0)) ∧ Grew w w' := by
  cases b
  · go_enter Tryd.func56, Tryd.ntmps56
    go_wp2
    refine bodyPost_ret (v := nv 2 0) (by simp [results, Tryd.results56, go_sem]) rfl ⟨rfl, ?_⟩
    repeat' (first | (with_reducible exact Grew.refl _) | (with_reducible refine Grew.setCell ?_ ?_ _) | (with_reducible refine Grew.drewN ?_ _) | (with_reducible refine Grew.reD ?_ _) | (with_reducible refine Grew.alloc ?_ _) | (dsimp only; omega))
  · go_enter Tryd.func56, Tryd.ntmps56
    go_wp2
    refine bodyPost_ret (v := nv 2 1) (by simp [results, Tryd.results56, go_sem]) rfl ⟨rfl, ?_⟩
    repeat' (first | (with_reducible exact Grew.refl _) | (with_reducible refine Grew.setCell ?_ ?_ _) | (with_reducible refine Grew.drewN ?_ _) | (with_reducible refine Grew.reD ?_ _) | (with_reducible refine Grew.alloc ?_ _) | (dsimp only; omega))
end Go.Proofs.YtnhhmndnmkkhlaaDoor
